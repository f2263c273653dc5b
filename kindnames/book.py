"""The book of names: names as published, choices of bearers, strikes, and names set ahead."""

from kindnames.errors import BadName, Later, Needed, NoName, NoSheet, Unfit
from kindnames.links import chain
from kindnames.moments import is_there, refuse_missing, refuse_new
from kindnames.words import MOST_RANK, are_sheets, is_list, is_moment, is_number, is_word


def bad_name(rank, words, sheets, like):
    """The first part of a name that is not as told, or None."""
    if not is_number(rank, 0, MOST_RANK):
        return "rank"
    many = 2 if rank == 0 else 1
    if not isinstance(words, tuple) or len(words) != many or not all([is_word(word) for word in words]):
        return "words"
    if rank == 0 and like is None:
        return None if are_sheets(sheets) else "sheets"
    if not is_list(sheets) or len(sheets) > 0:
        return "sheets"
    return None if is_moment(like) else "like"


def _may_be_like(rank, other):
    """Whether a name of a rank may be like one of another rank."""
    return other == 0 if rank == 0 else other < rank


def _named_in(record):
    """The names that a record names."""
    if record[0] == "name":
        return [] if record[5] is None else [record[5]]
    if record[0] == "ahead":
        return [record[2], record[3]]
    return [record[2]]


class Book:
    """Entries by their moments, kept as the records that are told:

    ("name", moment, rank, words, sheets, like), ("choice", moment, name, sheet),
    ("strike", moment, name, whole), ("ahead", moment, name, other).
    """

    def __init__(self):
        self._entries = {}
        # Of each name the moments of the records that name it.
        self._named_by = {}

    def publish(self, moment, words, *, rank=0, sheets=(), like=None):
        """Publish a name with sheets of its own, or like an elder name."""
        refuse_new(moment, self._entries)
        part = bad_name(rank, words, sheets, like)
        if part is not None:
            raise BadName(part)
        if like is not None:
            self._refuse_named(moment, like)
            if not _may_be_like(rank, self.rank(like)):
                raise Unfit(like)
        self._keep(("name", moment, rank, words, tuple(sheets), like))

    def choose(self, moment, name, sheet):
        """Choose one of a name's own sheets as its bearer."""
        refuse_new(moment, self._entries)
        self._refuse_named(moment, name)
        sheets = self._name(name)[4]
        if not sheets:
            raise Unfit(name)
        if sheet not in sheets:
            raise NoSheet(sheet)
        self._keep(("choice", moment, name, sheet))

    def strike(self, moment, name, *, whole=False):
        """Strike a name, plainly or wholly."""
        refuse_new(moment, self._entries)
        self._refuse_named(moment, name)
        self._keep(("strike", moment, name, bool(whole)))

    def ahead(self, moment, name, other):
        """Set a name ahead of another one of its rank."""
        refuse_new(moment, self._entries)
        self._refuse_named(moment, name)
        self._refuse_named(moment, other)
        if name == other or self.rank(name) != self.rank(other):
            raise Unfit(other)
        self._keep(("ahead", moment, name, other))

    def drop(self, moment):
        """Drop the entry of a moment that no other entry names."""
        refuse_missing(moment, self._entries)
        users = self._named_by.get(moment, {})
        if users:
            raise Needed(moment, min(list(users)))
        for name in _named_in(self._entries[moment]):
            del self._named_by[name][moment]
        if moment in self._named_by:
            del self._named_by[moment]
        del self._entries[moment]

    def entries(self, *, upto=None):
        """The records up to a pair, by moments."""
        return [self._entries[moment] for moment in sorted(self._entries) if is_there(moment, upto)]

    def names(self, *, rank=None, upto=None):
        """The names up to a pair, rising, of one rank where it is told."""
        told = [record for record in self.entries(upto=upto) if record[0] == "name"]
        return [record[1] for record in told if rank is None or record[2] == rank]

    def words(self, name):
        """The words of a name."""
        return self._name(name)[3]

    def rank(self, name):
        """The rank of a name."""
        return self._name(name)[2]

    def base(self, name):
        """The name with sheets to which likes lead from a name, itself where it has sheets."""
        record = self._name(name)
        while record[5] is not None:
            record = self._entries[record[5]]
        return record[1]

    def chosen(self, name, *, upto=None):
        """The sheet that is chosen for a name, the only one where there is one, or None."""
        self._name(name, upto=upto)
        base = self.base(name)
        choices = self._told_of(base, "choice", upto)
        if choices:
            return choices[0][3]
        sheets = self._name(base)[4]
        return sheets[0] if len(sheets) == 1 else None

    def bearers(self, name, *, upto=None):
        """The sheets that bear a name, by letters."""
        sheet = self.chosen(name, upto=upto)
        if sheet is not None:
            return [sheet]
        return sorted(self._name(self.base(name))[4])

    def struck(self, name, *, upto=None):
        """The eldest strike of a name, plain or whole, or None."""
        self._name(name, upto=upto)
        strikes = self._told_of(name, "strike", upto)
        return strikes[0][1] if strikes else None

    def wholly(self, name, *, upto=None):
        """The eldest whole strike of a name, or None."""
        self._name(name, upto=upto)
        strikes = [record for record in self._told_of(name, "strike", upto) if record[3]]
        return strikes[0][1] if strikes else None

    def taker(self, name, *, upto=None):
        """The eldest elder name of the rank with the same words that is not wholly struck, or None."""
        record = self._name(name, upto=upto)
        for elder in self.names(rank=record[2], upto=upto):
            if elder < name and self.words(elder) == record[3] and self.wholly(elder, upto=upto) is None:
                return elder
        return None

    def aheads(self, *, upto=None):
        """The aheads that do something, (moment, name, other), rising."""
        told = []
        for record in self.entries(upto=upto):
            # One that would close a ring does nothing, so those that do never set a name ahead of itself.
            if record[0] == "ahead" and chain(told, record[3], record[2]) is None:
                told.append(record[1:])
        return told

    def __len__(self):
        return len(self._entries)

    def _keep(self, record):
        self._entries[record[1]] = record
        if record[0] == "name":
            self._named_by[record[1]] = {}
        for name in _named_in(record):
            self._named_by[name][record[1]] = True

    def _name(self, name, *, upto=None):
        """The record of a name that is there up to a pair."""
        # The form is asked first: (True, 1) is the key (1, 1) for a dict, and a list can't be asked for.
        if not is_moment(name) or name not in self._named_by or not is_there(name, upto):
            raise NoName(name)
        return self._entries[name]

    def _refuse_named(self, moment, name):
        """Refuse what can't be named by an entry of a moment."""
        self._name(name)
        if name > moment:
            raise Later(name)

    def _told_of(self, name, sort, upto):
        """The records of one sort that name a name, by moments."""
        told = [self._entries[moment] for moment in sorted(self._named_by[name]) if is_there(moment, upto)]
        return [record for record in told if record[0] == sort]
