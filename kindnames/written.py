"""Entries as the words of their rows."""

from kindnames.marks import RANKS, show_node, show_pair


def _show_name(record):
    """The words of a name behind its moment."""
    _, _, rank, words, sheets, like = record
    behind = ["sheets", *sheets] if like is None else ["like", show_pair(like)]
    return ["name", RANKS[rank], *words, *behind]


def _show_strike(record):
    """The words of a strike behind its moment."""
    return ["strike", show_pair(record[2])] + (["wholly"] if record[3] else [])


def _show_deed(deed):
    """The words of a deed."""
    if deed[0] == "put":
        return ["put", *deed[1], "into", show_node(deed[2])]
    if deed[0] == "out":
        return ["out", *deed[1]]
    if deed[0] == "take":
        return ["take", deed[1]]
    return [deed[0], show_node(deed[1]), "nowhere" if deed[2] is None else show_node(deed[2])]


def _show_page(record):
    """The words of a page behind its moment."""
    words = ["page", record[2]]
    for deed in record[3]:
        words = words + [";"] + _show_deed(deed)
    return words


def _show_said(told):
    """The word for what is said of a part."""
    if told is None:
        return "any"
    return "some" if told else "none"


def _show_saying(record):
    """The words of a saying behind its moment."""
    words = ["say", record[2]]
    for mind, pair, node in [record[3], record[4]]:
        words = words + [mind, show_pair(pair), show_node(node)]
    return words + [_show_said(told) for told in record[5:]]


def shown_behind(record):
    """The words of an entry behind its moment."""
    if record[0] == "name":
        return _show_name(record)
    if record[0] == "choice":
        return ["choose", show_pair(record[2]), record[3]]
    if record[0] == "strike":
        return _show_strike(record)
    if record[0] == "ahead":
        return ["ahead", show_pair(record[2]), show_pair(record[3])]
    return _show_page(record) if record[0] == "page" else _show_saying(record)
