"""What two trees both place: the sheets, the parcels they lie in, and words for new kinds beside those of a tree."""

from kindnames.words import LETTERS


def placed_by_both(one, two):
    """The sheets that both trees place, by letters."""
    return [sheet for sheet in one.sheets() if two.kind_of(sheet) is not None]


def parcels(tree, sheets):
    """What the kinds of a tree have of some sheets, as rising tuples, without the empty ones."""
    told = []
    for kind in tree.nodes(rank=0):
        parcel = tuple([sheet for sheet in tree.sheets(kind) if sheet in sheets])
        if parcel:
            told.append(parcel)
    return told


def _word_at(place):
    """The word at a place of all words in order: a to z, then aa, ab and so on."""
    word = ""
    left = place
    while left >= 0:
        word = LETTERS[left % len(LETTERS)] + word
        left = left // len(LETTERS) - 1
    return word


def new_words(tree, but, many):
    """So many words, none of them twice, that of a kind of a tree, or one of some others."""
    taken = [node[1] for node in tree.nodes(rank=0)] + list(but)
    words = []
    place = 0
    while len(words) < many:
        word = _word_at(place)
        if word not in taken:
            words.append(word)
        place += 1
    return words
