"""Moments of entries: which are there for an ask, and which are refused."""

from kindnames.errors import BadMoment, NoEntry, SameMoment
from kindnames.words import is_moment


def is_there(moment, upto):
    """Whether what stands at a moment is there for an ask up to a pair, None for all."""
    return upto is None or moment <= upto


def just_ahead(moment):
    """The pair up to which all lesser moments are there, and no other ones."""
    return (moment[0], moment[1] - 1)


def refuse_new(moment, entries):
    """Refuse a moment for a new entry beside a dict of those that stand."""
    if not is_moment(moment):
        raise BadMoment(moment)
    if moment in entries:
        raise SameMoment(moment)


def refuse_missing(moment, entries):
    """Refuse a moment at which none of the entries stands."""
    # The form is asked first: (True, 1) is the key (1, 1) for a dict, and a list can't be asked for.
    if not is_moment(moment) or moment not in entries:
        raise NoEntry(moment)
