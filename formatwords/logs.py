"""Books written in rows, and read back."""

from formatwords.book import Book
from formatwords.deeds import require_names, require_no_ring
from formatwords.errors import NoText
from formatwords.kindlooks import is_book_name
from formatwords.kindtexts import kind_text, read_kind
from formatwords.shelves import Shelf, nameds_of


def book_text(book):
    """The text of a book."""
    clears, pairs = book.kept()
    rows = [f"{name} {kind_text(book.kind_of(name))}" for name in book.names()]
    rows.extend([f"keep {name}" for name in clears])
    rows.extend([f"apart {one} {two}" for one, two in pairs])
    return "\n".join(rows)


def read_book(text):
    """The book that is just so written, rows in any order; NoText, NoName, Ring or Unkept of all else."""
    if not isinstance(text, str):
        raise NoText(0)
    book = Book()
    if text == "":
        return book
    kinds, told_kept = {}, {}
    for at, row in enumerate(text.split("\n")):
        names = kept_names(row)
        if len(names) == 0:
            name, kind = named_kind(row, at)
            put_new(kinds, name, kind, at)
        else:
            put_new(told_kept, names, True, at)
    shelf = Shelf(
        kinds, {names[0]: True for names in told_kept if len(names) == 1},
        {names: True for names in told_kept if len(names) == 2},
    )
    for name in sorted(kinds):
        require_names(shelf, nameds_of(kinds[name]))
    require_names(shelf, [name for names in told_kept for name in names])
    require_no_ring(kinds)
    book.decisions.require_kept(shelf)
    book.shelf = shelf
    return book


def put_new(told, key, part, at):
    """Puts one more in a dict; NoText where an earlier row has it."""
    if key in told:
        raise NoText(at)
    told[key] = part


def kept_names(row):
    """The names that a row keeps, one or two in a tuple; none where it is no such row."""
    word, *names = row.split(" ")
    if not all([is_book_name(name) for name in names]):
        return ()
    if word == "keep" and len(names) == 1:
        return tuple(names)
    if word == "apart" and len(names) == 2 and names[0] < names[1]:
        return tuple(names)
    return ()


def named_kind(row, at):
    """The name and the kind of a row; NoText where it is no such row."""
    name, blank, rest = row.partition(" ")
    if not is_book_name(name) or blank == "":
        raise NoText(at)
    try:
        return name, read_kind(rest)
    except NoText:
        raise NoText(at) from None
