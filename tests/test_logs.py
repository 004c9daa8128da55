"""[111]: books written in rows, and read back."""

import random
import unittest

from formatwords.book import Book
from formatwords.errors import NoName, NoText, Ring, Unkept
from formatwords.kinds import Cases, Listing, Named, Number, Only, Record, Text
from formatwords.kindtexts import kind_text
from formatwords.logs import book_text, read_book
from formatwords.words import Word
from tests.helper import THINGS, drawn_kind, refusal, signature_of

NUMBER = Number(Word())
LETTERS = Text("abc", least=1)
UNCLEAR = Listing(Text("a"), ",")
PLAIN = kind_text(NUMBER)
LETTER_TEXT = kind_text(LETTERS)


def some_book():
    book = Book()
    book.do_all([("define", "n", NUMBER), ("define", "b", Listing(Named("n"), ", ", least=1)), ("define", "a", LETTERS),
                 ("keep", "n"), ("keep", "b"), ("apart", "n", "a"), ("apart", "b", "a")])
    return book


ROWS = [f"a {LETTER_TEXT}", 'b ( list ( named n ) ",~b 1 . )', f"n {PLAIN}", "keep b", "keep n", "apart a b", "apart a n"]


class TestLogs(unittest.TestCase):
    def at(self, text):
        return refusal(self, NoText, read_book, text).at

    def test_arguments(self):
        self.assertEqual(signature_of(book_text), [("book", False, "none")])
        self.assertEqual(signature_of(read_book), [("text", False, "none")])
        self.assertEqual(read_book(text=book_text(book=some_book())), some_book())

    def test_there_and_back(self):
        book = some_book()
        self.assertEqual(book_text(book), "\n".join(ROWS))
        read = read_book(book_text(book))
        self.assertIs(type(read), Book)
        self.assertEqual(read, book)
        self.assertEqual([read.names(), read.kept()], [book.names(), book.kept()])
        self.assertEqual(read.kind_of("b"), Listing(Named("n"), ", ", least=1))

    def test_the_empty_book(self):
        self.assertEqual(book_text(Book()), "")
        self.assertEqual(read_book(""), Book())
        self.assertEqual(len(read_book("")), 0)

    def test_rows_in_any_order(self):
        draw = random.Random(51)
        for time in range(30):
            rows = draw.sample(ROWS, len(ROWS))
            self.assertEqual(read_book("\n".join(rows)), some_book())
            self.assertEqual(book_text(read_book("\n".join(rows))), "\n".join(ROWS))

    def test_drawn_there_and_back(self):
        draw = random.Random(52)
        for time in range(60):
            book = Book()
            for name in draw.sample("abcdefghij", draw.randint(0, 5)):
                kind = drawn_kind(draw, 2)
                try:
                    book.do(("define", name, kind))
                    book.do(("keep", name))
                except (NoName, Ring, Unkept):
                    pass
            self.assertEqual(read_book(book_text(book)), book)

    def test_nothing_to_undo_and_an_empty_log(self):
        book = some_book()
        book.write("n", 5)
        read = read_book(book_text(book))
        self.assertEqual(read.log(), [])
        self.assertFalse(read.undo())
        self.assertEqual(read, book)
        read.do(("free", "n"))
        self.assertTrue(read.undo())
        self.assertFalse(read.undo())
        self.assertEqual(read.write("b", [1, 2]), "1, 2")

    def test_each_has_its_own(self):
        one, other = read_book("\n".join(ROWS)), read_book("\n".join(ROWS))
        one.do(("free", "n"))
        one.do(("define", "z", NUMBER))
        self.assertEqual(other, some_book())

    def test_rows_that_are_none(self):
        for bent in ["", " ", "a", "a ", f"a  {PLAIN}", f" a {PLAIN}", f"a {PLAIN} ", f"A {PLAIN}", f"abcdefghi {PLAIN}",
                     f"keep {PLAIN}", f"apart {PLAIN}", "keep", "keep ", "keep n b", "keep  n", "keep n ", "keep keep", "keep N",
                     "apart a", "apart a b n", "apart b a", "apart a a", "apart a  b", "apart a keep", "x ( record", "x ( named keep )",
                     "x record", "define x ( record )", "free a", "( record )", "keep a b", "apart  b", "x ( record )\t"]:
            for at in range(len(ROWS) + 1):
                rows = ROWS[:at] + [bent] + ROWS[at:]
                self.assertEqual(self.at("\n".join(rows)), at, bent)
        self.assertEqual(self.at("\n"), 0)
        self.assertEqual(self.at("\n".join(ROWS) + "\n"), len(ROWS))
        self.assertEqual(self.at("\n" + "\n".join(ROWS)), 0)

    def test_what_an_earlier_row_has(self):
        for at, row in enumerate(ROWS):
            self.assertEqual(self.at("\n".join(ROWS + [row])), len(ROWS))
            self.assertEqual(self.at("\n".join([row] + ROWS)), at + 1)
        self.assertEqual(self.at("\n".join(ROWS + [f"n {LETTER_TEXT}"])), len(ROWS))
        self.assertEqual(self.at("\n".join([ROWS[3], ROWS[3], "frob"])), 1)
        self.assertEqual(self.at("\n".join([ROWS[3], "frob", ROWS[3]])), 1)

    def test_no_text_ahead_of_all_else(self):
        self.assertEqual(self.at("keep zz\na ( named b )\nb ( named a )\nc"), 3)
        self.assertEqual(self.at("a ( named zz )\nkeep a\nkeep a"), 2)

    def test_no_name(self):
        for text, name in {"keep a": "a", "a ( named b )": "b", f"b ( named y )\na ( list ( named z ) \"x 0 . )": "z",
                           f"apart c d\na {PLAIN}\nkeep b": "c", f"keep d\napart a c\na {PLAIN}": "d",
                           f"apart a c\nkeep d\na {PLAIN}": "c", f"c {PLAIN}\napart a c\nkeep d": "a",
                           "keep d\na ( cases ( x ( named x ) ) ( y ( named b ) ) )": "x",
                           "a ( named a )\nb ( named c )": "c"}.items():
            self.assertEqual(refusal(self, NoName, read_book, text).name, name, text)

    def test_rings(self):
        for text, ring in {"a ( named a )": ["a", "a"], "b ( named a )\na ( named b )": ["a", "b", "a"],
                           "a ( named b )\nb ( named c )\nc ( named a )\ne ( named d )\nd ( named e )": ["d", "e", "d"],
                           "a ( named b )\nb ( named a )\ne ( named d )\nd ( named e )\nkeep a": ["a", "b", "a"],
                           "z ( named z )\na ( named b )\nb ( named a )": ["z", "z"]}.items():
            self.assertEqual(refusal(self, Ring, read_book, text).ring, ring)

    def test_unkept(self):
        unclear = kind_text(UNCLEAR)
        told = refusal(self, Unkept, read_book, f"b {unclear}\na {unclear}\nkeep b\nkeep a")
        self.assertEqual([told.name, told.other, told.text, sorted([told.one, told.two])], ["a", None, "", [[], [""]]])
        told = refusal(self, Unkept, read_book, f"b {unclear}\na {PLAIN}\nc {PLAIN}\napart a c\nkeep b")
        self.assertEqual([told.name, told.other], ["b", None])
        told = refusal(self, Unkept, read_book, f"b ( named a )\na {PLAIN}\nc {PLAIN}\napart b c\napart a b\nkeep b")
        self.assertEqual([told.name, told.other, told.text, told.one, told.two], ["a", "b", "0", 0, 0])

    def test_of_anything(self):
        for thing in THINGS + [Book(), some_book(), NUMBER, ROWS, b"", 1.5]:
            if type(thing) is not str:
                self.assertEqual(self.at(thing), 0)
            elif thing:
                self.assertEqual(self.at(thing), 0)

    def test_a_long_text(self):
        book = Book()
        names = [one + two for one in "abcde" for two in "klmnopqr"]
        for name in names:
            book.do(("define", name, Record([name, ("x", Cases([("y", NUMBER), ("z", Only((1, 3), "x" * 100))]))])))
        book.do(("keep", "ak"))
        text = book_text(book)
        self.assertGreater(len(text), 7000)
        self.assertEqual(read_book(text), book)
        self.assertEqual(self.at(text + "\nkeep ak"), 41)


if __name__ == "__main__":
    unittest.main()
