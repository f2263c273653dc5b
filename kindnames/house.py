"""The house: a book of names, pages of minds and sayings, no two entries of them at one moment."""

from kindnames.book import Book
from kindnames.minds import Minds
from kindnames.moments import refuse_missing, refuse_new
from kindnames.sayings import Sayings


def _tell_book(book, record):
    """Tell a book, or a house, an entry of a book."""
    sort, moment, *told = record
    if sort == "name":
        rank, words, sheets, like = told
        book.publish(moment, words, rank=rank, sheets=sheets, like=like)
    elif sort == "choice":
        book.choose(moment, told[0], told[1])
    elif sort == "strike":
        book.strike(moment, told[0], whole=told[1])
    else:
        book.ahead(moment, told[0], told[1])


class House:
    """All entries, each kept by what it is an entry of."""

    def __init__(self):
        self._book = Book()
        self._minds = Minds()
        self._sayings = Sayings()
        # Of each moment at which an entry stands the book, the minds or the sayings that keep it.
        self._keeping = {}

    def publish(self, moment, words, *, rank=0, sheets=(), like=None):
        """Publish a name with sheets of its own, or like an elder name."""
        refuse_new(moment, self._keeping)
        self._book.publish(moment, words, rank=rank, sheets=sheets, like=like)
        self._keeping[moment] = self._book

    def choose(self, moment, name, sheet):
        """Choose one of a name's own sheets as its bearer."""
        refuse_new(moment, self._keeping)
        self._book.choose(moment, name, sheet)
        self._keeping[moment] = self._book

    def strike(self, moment, name, *, whole=False):
        """Strike a name, plainly or wholly."""
        refuse_new(moment, self._keeping)
        self._book.strike(moment, name, whole=whole)
        self._keeping[moment] = self._book

    def ahead(self, moment, name, other):
        """Set a name ahead of another one of its rank."""
        refuse_new(moment, self._keeping)
        self._book.ahead(moment, name, other)
        self._keeping[moment] = self._book

    def page(self, moment, mind, deeds):
        """Tell a page of a mind."""
        refuse_new(moment, self._keeping)
        self._minds.tell(moment, mind, deeds)
        self._keeping[moment] = self._minds

    def say(self, moment, mind, one, other, *, both=None, first=None, second=None):
        """Tell what a mind says of a node of a tree and a node of another one."""
        refuse_new(moment, self._keeping)
        self._sayings.say(moment, mind, one, other, both=both, first=first, second=second)
        self._keeping[moment] = self._sayings

    def tell(self, record):
        """Tell an entry as its record."""
        if record[0] == "page":
            _, moment, mind, deeds = record
            self.page(moment, mind, deeds)
        elif record[0] == "saying":
            _, moment, mind, one, other, both, first, second = record
            self.say(moment, mind, one, other, both=both, first=first, second=second)
        else:
            _tell_book(self, record)

    def drop(self, moment):
        """Drop the entry of a moment that no other entry names."""
        refuse_missing(moment, self._keeping)
        self._keeping[moment].drop(moment)
        del self._keeping[moment]

    def records(self, *, upto=None):
        """The records of all entries up to a pair, by moments."""
        pages = [("page", *page) for page in self._minds.pages(upto=upto)]
        told = self._book.entries(upto=upto) + pages + self._sayings.entries(upto=upto)
        return sorted(told, key=lambda record: record[1])

    def book(self):
        """A book of all entries of the book, the asker's own."""
        told = Book()
        for record in self._book.entries():
            _tell_book(told, record)
        return told

    def minds(self):
        """The pages of all minds, the asker's own."""
        told = Minds()
        for moment, mind, deeds in self._minds.pages():
            told.tell(moment, mind, deeds)
        return told

    def tree(self, mind, *, upto=None):
        """The tree of a mind."""
        return self._minds.tree(mind, upto=upto)

    def __len__(self):
        return len(self._keeping)
