"""What the sayings of a house tell of minds' trees: how two nodes may lie, and what a use of words holds."""

from kindnames.cases import Case
from kindnames.errors import BadSaying
from kindnames.frames import Frame, Saying
from kindnames.mays import may_lie
from kindnames.uses import meant


def _said_of(house, asked, trees, upto):
    """The sayings of two of the asked trees, by moments, as of a frame of these; asked are (mind, pair)."""
    told = []
    for record in house.records(upto=upto):
        if record[0] == "saying" and record[3][:2] in asked and record[4][:2] in asked:
            _, _, _, one, other, both, first, second = record
            sides = [(asked.index(side[:2]), side[2]) for side in [one, other]]
            if all([node in trees[number].nodes() for number, node in sides]):
                told.append(Saying(sides[0], sides[1], both=both, first=first, second=second))
    return told


def _trees_of(house, asked):
    return [house.tree(mind, upto=pair) for mind, pair in asked]


def house_may_lie(house, one, other, *, third=None, upto=None):
    """How two nodes of minds' trees may lie by all that is said of these trees, and of a third one."""
    if one[:2] == other[:2]:
        raise BadSaying("other")
    asked = [one[:2], other[:2]]
    if third is not None:
        if third in asked:
            raise BadSaying("third")
        asked.append(third)
    trees = _trees_of(house, asked)
    # Asked for their refusals alone: a node that isn't there is told as such, and ahead of too many places.
    trees[0].parent(one[2])
    trees[1].parent(other[2])
    frame = Frame(trees)
    return may_lie(frame, _said_of(house, asked, trees, upto), (0, one[2]), (1, other[2]))


def _word(case, node, kind):
    """Whether all, nothing or perhaps some of a node of the first tree is in a kind of the second one."""
    if case.is_always_so(Saying((0, node), (1, kind), first=False)):
        return "sure"
    return "can't" if case.is_always_so(Saying((0, node), (1, kind), both=False)) else "may"


def use_may(house, words, mind, other, *, upto, on, told=None):
    """How what a mind means by two words lies to each kind of another mind's tree, by all that is said of both."""
    meaning = meant(house.book(), house.minds(), words, mind, upto=upto)
    if meaning[0] != "kind":
        return None
    asked = [(mind, upto), (other, on)]
    trees = _trees_of(house, asked)
    case = Case(Frame(trees), _said_of(house, asked, trees, told))
    if not case.has_world():
        return None
    return [(kind, _word(case, meaning[1], kind)) for kind in trees[1].nodes(rank=0)]
