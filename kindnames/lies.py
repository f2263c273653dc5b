"""Papers of a line: why a sheet lies where it lies, and why two nodes are one or are apart."""

from kindnames.deeds import nodes_named
from kindnames.errors import NoNode
from kindnames.links import chain, chains
from kindnames.looks import is_headed, same
from kindnames.words import is_list, is_moment, is_node


def _deeds(minds, mind, upto):
    """The deeds of a mind's line, each behind its page's moment, by moments: read once for each ask."""
    line = minds.line(mind, upto=upto)
    pages = [page for page in minds.pages(upto=upto) if page[0] in line]
    return [(moment, deed) for moment, _, deeds in pages for deed in deeds]


def _links(deeds):
    """The joins of a line as links, both ways about."""
    links = []
    for moment, deed in deeds:
        if deed[0] == "join":
            links.append((moment, deed[1], deed[2]))
            links.append((moment, deed[2], deed[1]))
    return links


def _last_put(deeds, sheet):
    """The moment at which a sheet is put or out last, and the kind that is named there, or None and None."""
    found = (None, None)
    for moment, deed in deeds:
        if deed[0] in ("put", "out") and sheet in deed[1]:
            found = (moment, deed[2] if deed[0] == "put" else None)
    return found


def _refuse_unborn(deeds, nodes):
    """Refuse the first of some nodes that no page of a line names."""
    born = {each: True for _, deed in deeds for each in nodes_named(deed)}
    for node in nodes:
        # The form is asked first: (False, "a") is the key (0, "a") for a dict, and a list can't be asked for.
        if not is_node(node) or node not in born:
            raise NoNode(node)


def why_lies(minds, mind, sheet, *, upto=None):
    """The paper of a sheet: where it lies in a mind's tree, and why."""
    deeds = _deeds(minds, mind, upto)
    moment, kind = _last_put(deeds, sheet)
    if kind is None:
        return ("nowhere", moment)
    keeper = minds.keeper(mind, kind, upto=upto)
    return ("lies", moment, kind, chain(_links(deeds), kind, keeper))


def why_one(minds, mind, node, other, *, upto=None):
    """The paper of two nodes: that they are one in a mind's line, or apart."""
    deeds = _deeds(minds, mind, upto)
    _refuse_unborn(deeds, [node, other])
    rows = chains(_links(deeds), node)
    if other in rows:
        return ("one", rows[other])
    return ("apart", sorted(rows))


def _is_link(thing):
    """Whether a thing has the form of a link."""
    if not isinstance(thing, tuple) or len(thing) != 3:
        return False
    return is_moment(thing[0]) and is_node(thing[1]) and is_node(thing[2])


def _leads(thing, links, start, goal):
    """Whether a thing is a row of links that leads from start to goal."""
    if not is_list(thing):
        return False
    known = {link: True for link in links}
    at = start
    for link in thing:
        # The form is asked first: what is equal to a link may be none, or can't be asked for.
        if not _is_link(link) or link not in known or link[1] != at:
            return False
        at = link[2]
    return at == goal


def _parts(thing, links, node, other):
    """Whether a thing is a rising list of nodes that no join leaves, with a node and without the other one."""
    if not is_list(thing) or not all([is_node(each) for each in thing]):
        return False
    if not all([one < two for one, two in zip(thing, thing[1:])]):
        return False
    if node not in thing or other in thing:
        return False
    return all([(link[1] in thing) == (link[2] in thing) for link in links])


def shows_lies(minds, mind, sheet, paper, *, upto=None):
    """Whether a thing is a paper of a sheet."""
    deeds = _deeds(minds, mind, upto)
    moment, kind = _last_put(deeds, sheet)
    if kind is None:
        return is_headed(paper, "nowhere", 2) and same(paper[1], moment)
    if not is_headed(paper, "lies", 4) or not same(paper[1:3], (moment, kind)):
        return False
    keeper = minds.keeper(mind, kind, upto=upto)
    return _leads(paper[3], _links(deeds), kind, keeper)


def shows_one(minds, mind, node, other, paper, *, upto=None):
    """Whether a thing is a paper of two nodes."""
    deeds = _deeds(minds, mind, upto)
    _refuse_unborn(deeds, [node, other])
    if is_headed(paper, "one", 2):
        return _leads(paper[1], _links(deeds), node, other)
    return is_headed(paper, "apart", 2) and _parts(paper[1], _links(deeds), node, other)
