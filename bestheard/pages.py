"""Pages: live networks written as texts, and read from them."""

from bestheard.deciding import settles
from bestheard.drafts import Draft
from bestheard.errors import InvalidPage
from bestheard.live import MOST_CELLS, Live
from bestheard.networks import Network
from bestheard.rulebooks import Rulebook
from bestheard.tables import tables_of

MIDDLE = "network"


def write_page(live):
    """Return the page of a live network."""
    return live.book.text() + MIDDLE + "\n" + live.web().text()


def read_page(text):
    """Return the live network of a page."""
    if not isinstance(text, str):
        raise InvalidPage(0)
    *lines, rest = text.split("\n")
    middle = lines.index(MIDDLE) if MIDDLE in lines else len(lines)
    book = _read_book(lines[:middle])
    if middle == len(lines) or book is None or not settles(tables_of(book)):
        raise InvalidPage(middle)
    network = _read_network(book, lines, middle + 1)
    if rest != "":
        raise InvalidPage(len(lines))
    return Live(book, network=network)


def _read_book(lines):
    """Return the rulebook of these lines, or None if they are not all that a rulebook needs."""
    draft = Draft()
    for number, line in enumerate(lines):
        if not draft.take(line):
            raise InvalidPage(number)
    if not draft.is_whole():
        return None
    fields, ties, kinds = draft.parts()
    return Rulebook(fields, ties=ties, kinds=kinds)


def _read_network(book, lines, start):
    """Return the network of the lines from the start on."""
    network = Network()
    for number, line in enumerate(lines):
        if number >= start and not _takes(book, network, line):
            raise InvalidPage(number)
    return network


def _takes(book, network, line):
    """Read the next line of the network and tell whether it may stand on a page of this rulebook."""
    if not network.take(line) or len(network) > MOST_CELLS:
        return False
    words = line.split(" ")
    if words[0] == "cell":
        return words[2] in book.kind_names()
    return words[1] in book.tie_names()
