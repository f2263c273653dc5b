"""Least ways from one tree's kinds to another's, by joins and partings."""

from kindnames.looks import is_headed, is_one_of
from kindnames.parcels import new_words, parcels, placed_by_both
from kindnames.words import is_list, is_word


def _after(standing, step):
    """The parcels that stand behind a step that can be done."""
    word, parcel, other = step
    if word == "join":
        return [each for each in standing if each not in (parcel, other)] + [tuple(sorted(parcel + other))]
    rest = tuple([sheet for sheet in parcel if sheet not in other])
    return [each for each in standing if each != parcel] + [other, rest]


def _joins(standing, goal):
    """The joins by which no parcel of the goal lies in two of those that stand."""
    steps = []
    for piece in goal:
        touched = [parcel for parcel in standing if any([sheet in piece for sheet in parcel])]
        whole = touched[0]
        for parcel in touched[1:]:
            steps.append(("join", whole, parcel))
            whole = tuple(sorted(whole + parcel))
        standing = [parcel for parcel in standing if parcel not in touched] + [whole]
    return steps


def least_way(one, two):
    """A least number of steps from a tree's parcels to another's, and such steps."""
    sheets = placed_by_both(one, two)
    standing = parcels(one, sheets)
    goal = parcels(two, sheets)
    # No way has fewer: of the parcels of both that hang together by sheets all the first but one are to be joined,
    # and all the second but one parted.
    steps = _joins(standing, goal)
    for step in steps:
        standing = _after(standing, step)
    for piece in goal:
        whole = [parcel for parcel in standing if piece[0] in parcel][0]
        if whole != piece:
            steps.append(("part", whole, piece))
            standing = _after(standing, steps[-1])
    return (len(steps), steps)


def _is_piece(thing, parcel):
    """Whether a thing is a rising tuple of some sheets of a parcel and not of all."""
    if not isinstance(thing, tuple) or not all([is_word(sheet) and sheet in parcel for sheet in thing]):
        return False
    rises = all([one < two for one, two in zip(thing, thing[1:])])
    return rises and 0 < len(thing) < len(parcel)


def _can_be_done(step, standing):
    """Whether a thing is a step from the parcels that stand."""
    if is_headed(step, "join", 3):
        return is_one_of(step[1], standing) and is_one_of(step[2], standing) and step[1] != step[2]
    return is_headed(step, "part", 3) and is_one_of(step[1], standing) and _is_piece(step[2], step[1])


def shows_way(one, two, steps):
    """Whether a thing is a way from a tree's parcels to another's, of whatever number of steps."""
    if not is_list(steps):
        return False
    sheets = placed_by_both(one, two)
    standing = parcels(one, sheets)
    for step in steps:
        if not _can_be_done(step, standing):
            return False
        standing = _after(standing, step)
    return sorted(standing) == sorted(parcels(two, sheets))


def way_pages(one, steps, *, but=()):
    """The deeds of pages that do the steps of a way in a mind whose kinds are a tree's."""
    words = new_words(one, but, len([step for step in steps if step[0] == "part"]))
    kinds = {sheet: one.kind_of(sheet) for sheet in one.sheets()}
    pages = []
    parted = 0
    for word, parcel, other in steps:
        if word == "join":
            # Joined kinds are one: sheets of either lead to both.
            pages.append([("join", kinds[parcel[0]], kinds[other[0]])])
        else:
            new = (0, words[parted])
            parted += 1
            for sheet in other:
                kinds[sheet] = new
            pages.append([("put", list(other), new)])
    return pages
