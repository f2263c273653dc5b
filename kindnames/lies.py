"""Papers of a line: why a sheet lies where it lies, and why two nodes are one or are apart."""

from kindnames.errors import NoNode
from kindnames.links import chain, chains
from kindnames.looks import is_headed, is_one_of, same
from kindnames.words import is_list, is_node


def _deeds(minds, mind, upto):
    """The deeds of a mind's line, each behind its page's moment, by moments."""
    line = minds.line(mind, upto=upto)
    told = []
    for moment, _, deeds in minds.pages(upto=upto):
        if moment in line:
            told = told + [(moment, *deed) for deed in deeds]
    return told


def _links(minds, mind, upto):
    """The joins of a mind's line as links, both ways about."""
    links = []
    for deed in _deeds(minds, mind, upto):
        if deed[1] == "join":
            links.append((deed[0], deed[2], deed[3]))
            links.append((deed[0], deed[3], deed[2]))
    return links


def _last_put(minds, mind, sheet, upto):
    """The moment at which a sheet is put or out last, and the kind that is named there, or None and None."""
    found = (None, None)
    for deed in _deeds(minds, mind, upto):
        if deed[1] in ("put", "out") and sheet in deed[2]:
            found = (deed[0], deed[3] if deed[1] == "put" else None)
    return found


def _refuse_unborn(minds, mind, nodes, upto):
    for node in nodes:
        if minds.born(mind, node, upto=upto) is None:
            raise NoNode(node)


def why_lies(minds, mind, sheet, *, upto=None):
    """The paper of a sheet: where it lies in a mind's tree, and why."""
    moment, kind = _last_put(minds, mind, sheet, upto)
    if kind is None:
        return ("nowhere", moment)
    keeper = minds.keeper(mind, kind, upto=upto)
    return ("lies", moment, kind, chain(_links(minds, mind, upto), kind, keeper))


def why_one(minds, mind, node, other, *, upto=None):
    """The paper of two nodes: that they are one in a mind's line, or apart."""
    _refuse_unborn(minds, mind, [node, other], upto)
    rows = chains(_links(minds, mind, upto), node)
    if other in rows:
        return ("one", rows[other])
    return ("apart", sorted(rows))


def _leads(thing, links, start, goal):
    """Whether a thing is a row of links that leads from start to goal."""
    if not is_list(thing):
        return False
    at = start
    for link in thing:
        if not is_one_of(link, [row for row in links if row[1] == at]):
            return False
        at = link[2]
    return at == goal


def _parts(thing, links, node, other):
    """Whether a thing is a rising list of nodes that no join leaves, with a node and without the other one."""
    if not is_list(thing) or not all([is_node(each) for each in thing]):
        return False
    if not all([one < two for one, two in zip(thing, thing[1:])]):
        return False
    if node not in thing or other in thing:
        return False
    return all([(link[1] in thing) == (link[2] in thing) for link in links])


def shows_lies(minds, mind, sheet, paper, *, upto=None):
    """Whether a thing is a paper of a sheet."""
    moment, kind = _last_put(minds, mind, sheet, upto)
    if kind is None:
        return is_headed(paper, "nowhere", 2) and same(paper[1], moment)
    if not is_headed(paper, "lies", 4) or not same(paper[1:3], (moment, kind)):
        return False
    keeper = minds.keeper(mind, kind, upto=upto)
    return _leads(paper[3], _links(minds, mind, upto), kind, keeper)


def shows_one(minds, mind, node, other, paper, *, upto=None):
    """Whether a thing is a paper of two nodes."""
    _refuse_unborn(minds, mind, [node, other], upto)
    links = _links(minds, mind, upto)
    if is_headed(paper, "one", 2):
        return _leads(paper[1], links, node, other)
    return is_headed(paper, "apart", 2) and _parts(paper[1], links, node, other)
