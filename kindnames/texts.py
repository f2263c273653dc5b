"""Rows of text: entries written and read, and a house as the rows of its entries."""

from kindnames.errors import Unread
from kindnames.house import House
from kindnames.marks import show_pair
from kindnames.readings import read_words
from kindnames.written import shown_behind


def show_record(record):
    """The row of an entry."""
    return " ".join([show_pair(record[1]), *shown_behind(record)])


def read_record(row):
    """The record that a row writes."""
    record = read_words(row.split(" ")) if isinstance(row, str) else None
    if record is None:
        raise Unread(row)
    return record


def show_house(house):
    """A house as the rows of its entries, by moments."""
    return "\n".join([show_record(record) for record in house.records()])


def read_house(text):
    """The house of a text of rows, in whatever order in which what is named is told ahead."""
    if not isinstance(text, str):
        raise Unread(text)
    # All rows are read ahead of the first that is told; a house without entries is the text without signs.
    records = [read_record(row) for row in text.split("\n")] if text else []
    house = House()
    for record in records:
        house.tell(record)
    return house
