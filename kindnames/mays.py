"""How two sides may lie by all that is said, what follows from sayings, and which sayings are to blame."""

from kindnames.cases import Case, refuse_sides
from kindnames.errors import BadSaying
from kindnames.frames import WORDS, Frame, said
from kindnames.trees import Tree
from kindnames.worlds import world


def may_lie(frame, sayings, one, other):
    """Of each of the five words a world or a clash of the sayings with one more that says it of two sides."""
    if one[0] == other[0]:
        raise BadSaying("other")
    refuse_sides(frame, sayings)
    frame.refuse(one)
    frame.refuse(other)
    return {word: world(frame, [*sayings, said(one, other, word)]) for word in WORDS}


def follows(frame, sayings, saying):
    """Whether a saying is so in each world of some others; all are where these have none."""
    refuse_sides(frame, [*sayings, saying])
    return Case(frame, sayings).is_always_so(saying)


def through(word, other):
    """The words that two words, of a first and a second and of the second and a third, let be of first and third."""
    kind = (0, "kind")
    # Each tree has a sheet of its own, so each of the kinds has something, and none shows where.
    frame = Frame([Tree({kind: [sheet]}) for sheet in ["first", "second", "third"]])
    sayings = [said((0, kind), (1, kind), word), said((1, kind), (2, kind), other)]
    told = may_lie(frame, sayings, (0, kind), (2, kind))
    return [third for third, paper in told.items() if paper[0] == "world"]


def blame(frame, sayings):
    """Numbers of sayings that have no world together, and have one without any of them; None where all have one."""
    case = Case(frame, sayings)
    if case.has_world():
        return None
    # What is left out more only leaves more worlds: a saying that is needed once stays needed.
    out = []
    for number in range(len(sayings)):
        if not case.has_world([*out, number]):
            out.append(number)
    return [number for number in range(len(sayings)) if number not in out]
