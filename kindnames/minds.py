"""Minds and their pages: the lines of pages that minds have, and their trees."""

from kindnames.deeds import bad_place, kept, taken
from kindnames.errors import BadPage
from kindnames.lines import Line
from kindnames.moments import is_there, just_ahead, refuse_missing, refuse_new
from kindnames.words import is_list, is_node, is_word


def _last_take(pages):
    """The last of some pages that has a take, or None."""
    taking = [page for page in pages if taken(page[2]) is not None]
    return taking[-1] if taking else None


class Minds:
    """Pages by their moments, kept as they are told: (moment, mind, deeds)."""

    def __init__(self):
        self._pages = {}

    def tell(self, moment, mind, deeds):
        """Tell a page of a mind."""
        refuse_new(moment, self._pages)
        if not is_word(mind) or not is_list(deeds):
            raise BadPage(-1)
        place = bad_place(deeds)
        if place is not None:
            raise BadPage(place)
        self._pages[moment] = (moment, mind, kept(deeds))

    def drop(self, moment):
        """Drop the page of a moment."""
        refuse_missing(moment, self._pages)
        del self._pages[moment]

    def pages(self, *, mind=None, upto=None):
        """The pages up to a pair, by moments, of one mind where it is told."""
        told = [self._pages[moment] for moment in sorted(self._pages) if is_there(moment, upto)]
        return [page for page in told if mind is None or page[1] == mind]

    def line(self, mind, *, upto=None):
        """The moments of the pages of a mind's line, rising."""
        told = []
        own = self._own(mind, upto)
        page = _last_take(own)
        while page is not None:
            told = [each[0] for each in own if each[0] >= page[0]] + told
            own = self._own(taken(page[2]), just_ahead(page[0]))
            page = _last_take(own)
        return [each[0] for each in own] + told

    def tree(self, mind, *, upto=None):
        """The tree of a mind."""
        return self._done(mind, upto).tree()

    def keeper(self, mind, node, *, upto=None):
        """The keeper to which a node leads in a mind, None where it isn't born in its line."""
        return self._done(mind, upto).keeper(node) if is_node(node) else None

    def born(self, mind, node, *, upto=None):
        """The moment at which a node is born in a mind's line, or None."""
        return self._done(mind, upto).born(node) if is_node(node) else None

    def __len__(self):
        return len(self._pages)

    def _own(self, mind, upto):
        """The pages that a mind itself told."""
        return [page for page in self.pages(upto=upto) if page[1] == mind]

    def _done(self, mind, upto):
        """What the pages of a mind's line did."""
        line = Line()
        for moment in self.line(mind, upto=upto):
            line.do_page(moment, self._pages[moment][2])
        return line
