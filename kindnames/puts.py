"""Fewest puts by which one tree's parcels become another's, shown by prices of kinds."""

from kindnames.looks import same
from kindnames.parcels import new_words, placed_by_both
from kindnames.prices import heaviest
from kindnames.words import MOST, is_list, is_node, is_number


def _shares(one, two):
    """A dict from the pairs of kinds to how many sheets they share."""
    shares = {(kind, other): 0 for kind in one.nodes(rank=0) for other in two.nodes(rank=0)}
    for sheet in placed_by_both(one, two):
        shares[(one.kind_of(sheet), two.kind_of(sheet))] += 1
    return shares


def _padded(kinds, many):
    """So many kinds, None behind those that there are."""
    return kinds + [None] * (many - len(kinds))


def fewest_puts(one, two):
    """The paper of the fewest puts: their number, pairs of kinds, and the prices of the kinds of both trees."""
    kinds = one.nodes(rank=0)
    others = two.nodes(rank=0)
    shares = _shares(one, two)
    # A square: what is no kind shares nothing, and its price is 0.
    many = max(len(kinds), len(others))
    weights = [[shares.get((kind, other), 0) for other in _padded(others, many)] for kind in _padded(kinds, many)]
    mates, first, second = heaviest(weights)
    pairs = []
    for column, paired in enumerate(others):
        if weights[mates[column]][column] > 0:
            pairs.append((kinds[mates[column]], paired))
    number = len(placed_by_both(one, two)) - sum([shares[pair] for pair in pairs])
    return (number, sorted(pairs), dict(zip(kinds, first)), dict(zip(others, second)))


def _are_pairs(thing, shares):
    """Whether a thing is a rising list of pairs of kinds, each kind once at most."""
    if not is_list(thing):
        return False
    for pair in thing:
        if not isinstance(pair, tuple) or len(pair) != 2 or not is_node(pair[0]) or not is_node(pair[1]):
            return False
        if pair not in shares:
            return False
    seconds = [pair[1] for pair in thing]
    return all([pair[0] < after[0] for pair, after in zip(thing, thing[1:])]) and len(set(seconds)) == len(seconds)


def _are_prices(thing, tree):
    """Whether a thing is a dict from all kinds of a tree to prices."""
    kinds = tree.nodes(rank=0)
    if not isinstance(thing, dict) or len(thing) != len(kinds):
        return False
    return all([is_node(kind) and kind in kinds and is_number(price, 0, MOST) for kind, price in thing.items()])


def shows_puts(one, two, paper):
    """Whether a thing is a paper of the fewest puts."""
    if not isinstance(paper, tuple) or len(paper) != 4:
        return False
    number, pairs, first, second = paper
    shares = _shares(one, two)
    if not _are_pairs(pairs, shares) or not _are_prices(first, one) or not _are_prices(second, two):
        return False
    if not all([first[kind] + second[other] >= shares[(kind, other)] for kind, other in shares]):
        return False
    kept = sum([shares[pair] for pair in pairs])
    prices = sum(list(first.values())) + sum(list(second.values()))
    return prices == kept and same(number, len(placed_by_both(one, two)) - kept)


def puts_page(one, two, *, but=()):
    """The deeds of one page that does the fewest puts in a mind whose kinds are a tree's."""
    goals = {other: kind for kind, other in fewest_puts(one, two)[1]}
    sheets = placed_by_both(one, two)
    others = [other for other in two.nodes(rank=0) if any([two.kind_of(sheet) == other for sheet in sheets])]
    new = [other for other in others if other not in goals]
    for other, word in zip(new, new_words(one, but, len(new))):
        goals[other] = (0, word)
    deeds = []
    for other in others:
        put = [sheet for sheet in sheets if two.kind_of(sheet) == other and one.kind_of(sheet) != goals[other]]
        if put:
            deeds.append(("put", put, goals[other]))
    return deeds
