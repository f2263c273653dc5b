"""The names of a book up to a pair, read once for many asks."""

from kindnames.errors import Unfit


class Names:
    """What a book tells of the names that are there, without those that are told as left out."""

    def __init__(self, book, upto, but=()):
        self._book = book
        self._upto = upto
        entries = book.entries(upto=upto)
        told = [record for record in entries if record[0] == "name" and record[1] not in but]
        self._records = {record[1]: record for record in told}
        self._bearing = {name: book.bearers(name, upto=upto) for name in self._records}
        self._aheads = book.aheads(upto=upto)
        self._strikes = {}
        for record in entries:
            if record[0] == "strike":
                self._strikes.setdefault(record[2], []).append(record[1])
        # Those that are wholly struck neither take words nor bar others.
        standing = [record for record in told if book.wholly(record[1], upto=upto) is None]
        self._by_words = {}
        self._by_own = {}
        for record in standing:
            self._by_words.setdefault((record[2], record[3]), []).append(record[1])
            if record[2] == 0:
                self._by_own.setdefault(record[3][1], []).append(record[1])

    def refuse(self, name, rank):
        """Refuse a name that isn't there, or isn't of a rank."""
        # Asked for its refusal alone: a name's rank doesn't tell whether it is there up to the pair.
        self._book.struck(name, upto=self._upto)
        if self._book.rank(name) != rank:
            raise Unfit(name)

    def of_rank(self, rank):
        """The names of a rank, rising."""
        return [name for name, record in self._records.items() if record[2] == rank]

    def bases(self):
        """The names with sheets of their own, rising."""
        return [name for name, record in self._records.items() if record[4]]

    def base(self, name):
        """The name with sheets to which likes lead from a name."""
        return self._book.base(name)

    def words(self, name):
        """The words of a name."""
        return self._records[name][3]

    def bearers(self, name):
        """The sheets that bear a name, by letters."""
        return self._bearing[name]

    def aheads(self):
        """The aheads that do something, rising."""
        return self._aheads

    def strikes(self, name):
        """The strikes of a name, rising."""
        return self._strikes.get(name, [])

    def takers(self, name):
        """The elder names of a name's rank with the same words that aren't wholly struck, rising."""
        record = self._records[name]
        return [other for other in self._by_words.get((record[2], record[3]), []) if other < name]

    def rivals(self, name):
        """Of a name of rank 0 the elder ones of rank 0 with the same own word that aren't wholly struck, rising."""
        return [other for other in self._by_own.get(self._records[name][3][1], []) if other < name]
