"""[100] to [102]: deeds, what is refused and which goes first, undo, and the log; of [4] what it says of books."""

import random
import unittest

from formatwords.asking import kind_clear, kinds_apart
from formatwords.book import Book
from formatwords.errors import Needed, NoDeed, NoName, NoThing, Ring, Taken, TooFar, Unkept
from formatwords.kinds import Cases, Choice, Listing, Named, Number, Only, Padded, Record, Text
from formatwords.logs import book_text, read_book
from formatwords.words import Word
from tests.helper import THINGS, refusal, signature_of

NUMBER = Number(Word())
LETTERS = Text("abc", least=1)
UNCLEAR = Listing(Text("a"), ",")


def book_of(**kinds):
    """A book with these kinds by names."""
    book = Book()
    waiting = dict(kinds)
    while waiting:
        for name in sorted(waiting):
            try:
                book.do(("define", name, waiting[name]))
                del waiting[name]
            except NoName:
                pass
    return book


class Held(unittest.TestCase):
    def refused(self, error, book, deed, **fields):
        """A deed is refused so, and changes nothing."""
        text, log = book_text(book), book.log()
        told = refusal(self, error, book.do, deed)
        for name, value in fields.items():
            self.assertEqual(getattr(told, name), value)
        self.assertEqual(refusal(self, error, book.do_all, [deed]).__dict__, told.__dict__)
        self.assertEqual([book_text(book), book.log()], [text, log])
        return told

    def kept_holds(self, book):
        """What is kept is so."""
        clears, pairs = book.kept()
        for name in clears:
            self.assertEqual(kind_clear(book.whole_kind(name))[0], "clear")
        for one, two in pairs:
            self.assertLess(one, two)
            self.assertEqual(kinds_apart(book.whole_kind(one), book.whole_kind(two))[0], "apart")


class TestInterface(unittest.TestCase):
    def test_arguments(self):
        plain = "none"
        for name, rows in {"do": ["deed"], "do_all": ["deeds"], "undo": [], "names": [], "kind_of": ["name"],
                           "whole_kind": ["name"], "kept": [], "write": ["name", "thing"], "log": [],
                           "logged": ["number"], "rewritten": ["number"]}.items():
            self.assertIn(name, vars(Book))
            self.assertEqual(signature_of(getattr(Book(), name)), [(row, False, plain) for row in rows])
        self.assertEqual(signature_of(Book), [])

    def test_kinds_of_values(self):
        book = Book()
        self.assertIsNone(book.do(deed=("define", "a", NUMBER)))
        self.assertIsNone(book.do_all(deeds=[("keep", "a")]))
        self.assertEqual(book.write(thing=5, name="a"), "5")
        self.assertEqual([book.names(), book.kept(), book.log(), len(book)], [["a"], (["a"], []), [("a", "5")], 1])
        self.assertEqual([book.logged(number=0), book.rewritten(number=0), book.kind_of(name="a")], [5, "5", NUMBER])
        self.assertIs(book.undo(), True)
        self.assertEqual([type(book.kept()), type(book.kept()[0]), type(book.kept()[1])], [tuple, list, list])


class TestDeeds(Held):
    def test_define_change_drop(self):
        book = book_of(b=NUMBER, a=Listing(Named("b"), ","))
        self.assertEqual(book.names(), ["a", "b"])
        self.assertEqual(book.kind_of("a"), Listing(Named("b"), ","))
        self.assertEqual(book.whole_kind("a"), Listing(NUMBER, ","))
        book.do(("change", "b", LETTERS))
        self.assertEqual(book.whole_kind("a"), Listing(LETTERS, ","))
        book.do(("drop", "a"))
        book.do(("drop", "b"))
        self.assertEqual([book.names(), len(book)], [[], 0])

    def test_whole_kind_through_several(self):
        kind = Record([("x", Cases([("t", Padded(Listing(Named("b"), ","), 4)), ("u", Named("c"))])), "-", ("y", Named("c"))])
        book = book_of(a=kind, b=Cases([("n", Named("c"))]), c=Padded(Named("d"), 3), d=NUMBER)
        c = Padded(NUMBER, 3)
        self.assertEqual(book.whole_kind("c"), c)
        self.assertEqual(book.whole_kind("a"), Record([
            ("x", Cases([("t", Padded(Listing(Cases([("n", c)]), ","), 4)), ("u", c)])), "-", ("y", c)]))
        self.assertEqual(book.kind_of("a"), kind)

    def test_a_long_row_of_nameds(self):
        book = Book()
        book.do(("define", "a", NUMBER))
        names = ["a" * count for count in range(1, 9)] + ["b" * count for count in range(1, 9)]
        for name, other in zip(names, names[1:]):
            book.do(("define", other, Named(name)))
        self.assertEqual(book.whole_kind(names[-1]), NUMBER)
        self.assertEqual(book.kind_of(names[-1]), Named(names[-2]))

    def test_rename(self):
        book = book_of(a=NUMBER, b=Record([("a", Listing(Named("a"), ",")), ("b", Cases([("a", Padded(Named("a"), 2))]))]),
                       c=LETTERS)
        for deed in [("keep", "a"), ("apart", "a", "c"), ("keep", "c")]:
            book.do(deed)
        whole = book.whole_kind("b")
        book.do(("rename", "a", "z"))
        self.assertEqual(book.names(), ["b", "c", "z"])
        self.assertEqual(book.kind_of("b"), Record([("a", Listing(Named("z"), ",")),
                                                    ("b", Cases([("a", Padded(Named("z"), 2))]))]))
        self.assertEqual(book.whole_kind("b"), whole)
        self.assertEqual(book.kept(), (["c", "z"], [("c", "z")]))
        book.do(("rename", "z", "a"))
        self.assertEqual(book.kept(), (["a", "c"], [("a", "c")]))

    def test_keep_apart_free(self):
        book = book_of(a=NUMBER, b=LETTERS, c=Only(1, "?"))
        for deed in [("keep", "b"), ("keep", "a"), ("apart", "c", "a"), ("apart", "b", "c"), ("apart", "b", "a"),
                     ("keep", "a"), ("apart", "a", "c")]:
            book.do(deed)
        self.assertEqual(book.kept(), (["a", "b"], [("a", "b"), ("a", "c"), ("b", "c")]))
        book.do(("free", "a"))
        self.assertEqual(book.kept(), (["b"], [("b", "c")]))
        book.do(("free", "a"))
        self.assertEqual(book.kept(), (["b"], [("b", "c")]))
        book.do(("change", "a", UNCLEAR))
        book.do(("drop", "b"))
        self.assertEqual(book.kept(), ([], []))
        for time in range(3):
            self.assertTrue(book.undo())
        self.assertEqual(book.kept(), (["b"], [("b", "c")]))
        self.assertTrue(book.undo())
        self.assertEqual(book.kept()[0], ["a", "b"])

    def test_free_of_what_is_dropped_and_told_anew(self):
        book = book_of(a=NUMBER)
        book.do(("keep", "a"))
        book.do(("drop", "a"))
        book.do(("define", "a", UNCLEAR))
        self.assertEqual(book.kept(), ([], []))


class TestNoDeed(Held):
    def test_of_anything(self):
        book = book_of(a=NUMBER)
        for thing in THINGS + [NUMBER, 1.5, b"drop", (), ("drop",), "drop", ["drop", "a"], (["drop"], "a"), (None,), (("drop", "a"),)]:
            self.refused(NoDeed, book, thing, at=0)

    def test_words_counts_names_and_kinds(self):
        book = book_of(a=NUMBER, b=LETTERS)
        for deed in [("define", "c"), ("define", "c", NUMBER, NUMBER), ("define", "c", "kind"), ("define", "c", None),
                     ("define", NUMBER, "c"), ("define", "keep", NUMBER), ("define", "apart", NUMBER), ("define", "", NUMBER),
                     ("define", "abcdefghi", NUMBER), ("define", "C", NUMBER), ("define", "c1", NUMBER), ("define", "c ", NUMBER),
                     ("define", ["c"], NUMBER), ("define", "c", Word()), ("define", "c", Number), ("Define", "c", NUMBER),
                     ("drop",), ("drop", "a", "b"), ("drop", "keep"), ("drop", None), ("drop", 1), ("change", "a"),
                     ("change", "a", [NUMBER]), ("rename", "a"), ("rename", "a", "keep"), ("rename", "apart", "c"),
                     ("rename", "a", "c", "d"), ("keep",), ("keep", "keep"), ("keep", "a", "b"), ("apart", "a"),
                     ("apart", "a", "a"), ("apart", "zz", "zz"), ("apart", "a", "b", "c"), ("apart", "a", "apart"), ("free",),
                     ("free", "a", "b"), ("free", "A"), ("undo",), ("write", "a", 5), ("", "a"), (" drop", "a"),
                     ("drop", {"a": 1}), ("drop", ("a",))]:
            self.refused(NoDeed, book, deed, at=0)


class TestRefusals(Held):
    def test_taken(self):
        book = book_of(a=NUMBER, b=LETTERS)
        self.refused(Taken, book, ("define", "a", NUMBER), name="a")
        self.refused(Taken, book, ("define", "b", Named("zz")), name="b")
        self.refused(Taken, book, ("define", "b", Named("b")), name="b")
        self.refused(Taken, book, ("rename", "a", "b"), name="b")
        self.refused(Taken, book, ("rename", "a", "a"), name="a")
        self.refused(Taken, book, ("rename", "zz", "b"), name="b")

    def test_no_name(self):
        book = book_of(a=NUMBER)
        for deed in [("change", "z", NUMBER), ("change", "z", Named("y")), ("change", "z", Named("z")), ("drop", "z"),
                     ("rename", "z", "y"), ("rename", "z", "z"), ("keep", "z"), ("apart", "z", "y"), ("apart", "a", "z"),
                     ("apart", "z", "a"), ("free", "z"), ("define", "b", Named("z")), ("change", "a", Named("z"))]:
            self.refused(NoName, book, deed, name="z")
        self.refused(NoName, book, ("apart", "y", "z"), name="y")

    def test_no_name_in_the_order_of_the_text(self):
        book = book_of(a=NUMBER)
        kind = Record([("f", Named("a")), ("e", Cases([("z", Listing(Named("y"), ",")), ("a", Named("x"))])), ("d", Named("b"))],
                      unwritten=[("w", Number(Word(), least=0, most=1))])
        self.refused(NoName, book, ("define", "c", kind), name="y")
        self.refused(NoName, book, ("define", "y", kind), name="x")
        self.refused(NoName, book, ("change", "a", kind), name="y")
        self.refused(NoName, book, ("change", "zz", kind), name="zz")
        # The one that is defined is there, and comes back to itself.
        book.do_all([("define", "x", NUMBER), ("define", "b", NUMBER)])
        self.refused(Ring, book, ("define", "y", kind), ring=["y", "y"])

    def test_needed(self):
        book = book_of(a=NUMBER, d=Named("a"), c=Listing(Record([("x", Padded(Named("a"), 1))]), ","), b=Named("c"))
        self.refused(Needed, book, ("drop", "a"), name="a", by="c")
        self.refused(Needed, book, ("drop", "c"), name="c", by="b")
        book.do(("drop", "b"))
        book.do(("drop", "c"))
        self.refused(Needed, book, ("drop", "a"), name="a", by="d")
        book.do(("drop", "d"))
        book.do(("drop", "a"))

    def test_needed_by_the_first_as_texts_are(self):
        book = Book()
        for name in ("z", "y", "aa", "m", "ab", "a"):
            book.do(("define", name, NUMBER if name == "z" else Named("z")))
        for name in ("a", "aa", "ab", "m", "y"):
            self.refused(Needed, book, ("drop", "z"), name="z", by=name)
            book.do(("drop", name))

    def test_rings_by_ways_of_one_length(self):
        names = [one + two for one in "pqr" for two in "abc"]
        book = Book()
        book.do(("define", "z", NUMBER))
        for name in names[::-1]:
            book.do(("define", name, Named("z")))
        book.do(("define", "y", Cases([(name, Named(name)) for name in names[::2]])))
        book.do(("define", "x", Cases([(name, Named(name)) for name in names[1::2]])))
        for ends, ring in [("yx", ["pa", "z", "y", "pa"]), ("xy", ["pa", "z", "y", "pa"]), ("x", ["pb", "z", "x", "pb"])]:
            self.refused(Ring, book, ("change", "z", Cases([(end, Named(end)) for end in ends])), ring=ring)

    def test_rings(self):
        book = book_of(a=NUMBER, b=Named("a"), c=Cases([("x", Named("b")), ("y", Named("a"))]), d=Listing(Named("c"), ","))
        self.refused(Ring, book, ("change", "a", Named("a")), ring=["a", "a"])
        self.refused(Ring, book, ("change", "a", Padded(Named("b"), 3)), ring=["a", "b", "a"])
        self.refused(Ring, book, ("change", "a", Named("c")), ring=["a", "c", "a"])
        self.refused(Ring, book, ("change", "b", Record([("x", Named("d"))])), ring=["b", "d", "c", "b"])
        self.refused(Ring, book, ("change", "a", Named("d")), ring=["a", "d", "c", "a"])
        self.refused(Ring, book, ("change", "a", Cases([("x", Named("d")), ("y", Named("c")), ("z", Named("b"))])),
                     ring=["a", "b", "a"])
        self.refused(Ring, book, ("define", "e", Named("e")), ring=["e", "e"])

    def test_of_several_shortest_rings_the_first(self):
        book = book_of(z=NUMBER, c=Named("z"), b=Cases([("x", Named("c")), ("y", Named("z"))]), a=Named("z"), d=Named("z"))
        kind = Cases([("s", Named("d")), ("t", Named("a")), ("u", Named("b"))])
        self.refused(Ring, book, ("change", "z", kind), ring=["a", "z", "a"])
        book.do(("change", "z", Only(1, "x")))
        book = book_of(e=NUMBER, d=Named("e"), c=Named("d"), b=Named("d"), a=Only(1, "x"))
        self.refused(Ring, book, ("change", "e", Cases([("x", Named("c")), ("y", Named("b"))])), ring=["b", "d", "e", "b"])

    def test_a_ring_told_is_the_askers_own(self):
        book = book_of(a=NUMBER)
        told = self.refused(Ring, book, ("change", "a", Named("a")), ring=["a", "a"])
        told.ring.append("x")
        self.refused(Ring, book, ("change", "a", Named("a")), ring=["a", "a"])


class TestUnkept(Held):
    def unkept(self, book, deed, name, other, text):
        told = self.refused(Unkept, book, deed, name=name, other=other, text=text)
        after = Book()
        after.do_all([("define", one, book.kind_of(one)) for one in ordered(book)])
        if deed[0] == "change":
            after.do(deed)
        first = after.whole_kind(name)
        second = first if other is None else after.whole_kind(other)
        self.assertEqual([first.write(told.one), second.write(told.two)], [text, text])
        if other is None:
            self.assertNotEqual(told.one, told.two)
        return told

    def test_keep(self):
        book = book_of(a=UNCLEAR, b=NUMBER)
        self.unkept(book, ("keep", "a"), "a", None, "")
        book.do(("keep", "b"))
        self.unkept(book, ("change", "b", UNCLEAR), "b", None, "")
        self.unkept(book, ("change", "b", Number(Word(width=2, fill="0", side="left"))), "b", None, "10")

    def test_apart(self):
        book = book_of(a=NUMBER, b=LETTERS, c=Text("0123456789"))
        self.unkept(book, ("apart", "c", "a"), "a", "c", "0")
        book.do(("apart", "b", "a"))
        self.unkept(book, ("change", "b", Text("5")), "a", "b", "5")
        self.unkept(book, ("change", "a", Only(12, "cab")), "a", "b", "cab")

    def test_by_a_deed_on_another_name(self):
        book = book_of(a=NUMBER, b=Listing(Named("a"), ",", least=1), c=Cases([("x", Named("b"))]), d=Text(",;", least=1))
        for deed in [("keep", "b"), ("apart", "c", "d")]:
            book.do(deed)
        self.unkept(book, ("change", "a", Text(",", most=2)), "b", None, ",")
        self.unkept(book, ("change", "a", Text(";", least=1)), "c", "d", ";")
        book.do(("change", "a", Text("x", least=1)))
        book.do(("free", "b"))
        self.unkept(book, ("change", "a", Text(",")), "c", "d", ",")

    def test_the_first_kept_one_then_the_first_two(self):
        book = book_of(z=NUMBER, a=Named("z"), b=Named("z"), c=Only(1, "x"), d=Only(1, "x"), e=Text("xy", least=2))
        for deed in [("keep", "b"), ("keep", "a"), ("apart", "z", "c"), ("apart", "a", "d"), ("apart", "a", "c")]:
            book.do(deed)
        self.unkept(book, ("change", "z", Cases([("x", Text("x")), ("y", Text("x"))])), "a", None, "")
        self.unkept(book, ("change", "z", Text("x")), "a", "c", "x")
        book.do(("free", "a"))
        self.unkept(book, ("change", "z", Text("x")), "c", "z", "x")
        self.unkept(book, ("change", "z", UNCLEAR), "b", None, "")

    def test_what_is_refused_first(self):
        book = book_of(a=NUMBER, b=Named("a"))
        book.do(("keep", "a"))
        self.refused(NoName, book, ("change", "a", Cases([("x", UNCLEAR), ("y", Named("zz"))])), name="zz")
        self.refused(Ring, book, ("change", "a", Cases([("x", UNCLEAR), ("y", Named("b"))])), ring=["a", "b", "a"])
        self.refused(Unkept, book, ("change", "a", Cases([("x", UNCLEAR)])), name="a")

    def test_what_is_told_is_the_askers_own(self):
        book = book_of(a=Listing(Listing(NUMBER, ","), ";"))
        told = self.unkept(book, ("keep", "a"), "a", None, "")
        for thing in (told.one, told.two):
            thing.append(5)
        told = self.unkept(book, ("keep", "a"), "a", None, "")
        self.assertEqual(sorted([told.one, told.two]), [[], [[]]])


def ordered(book):
    """The names, each behind those that its kind needs."""
    names = []
    while len(names) < len(book):
        for name in book.names():
            if name not in names:
                try:
                    book_of(**{one: book.kind_of(one) for one in names}).do(("define", name, book.kind_of(name)))
                    names.append(name)
                except NoName:
                    pass
    return names


class TestSeveral(Held):
    def refused_all(self, error, book, deeds, **fields):
        text = book_text(book)
        told = refusal(self, error, book.do_all, deeds)
        for name, value in fields.items():
            self.assertEqual(getattr(told, name), value)
        self.assertEqual(book_text(book), text)

    def test_all_or_none(self):
        book = Book()
        book.do_all([("define", "a", NUMBER), ("define", "b", Named("a")), ("keep", "b"), ("rename", "a", "c")])
        self.assertEqual([book.names(), book.kept()[0]], [["b", "c"], ["b"]])
        self.refused_all(NoName, book, [("define", "x", NUMBER), ("drop", "b"), ("drop", "b")], name="b")
        self.refused_all(Taken, book, [("define", "x", NUMBER), ("define", "x", NUMBER)], name="x")
        self.refused_all(Needed, book, [("define", "a", Named("c")), ("drop", "b"), ("drop", "c")], name="c", by="a")

    def test_only_the_state_behind_the_last_is_right(self):
        book = book_of(a=NUMBER, b=LETTERS)
        book.do_all([("keep", "a"), ("apart", "a", "b")])
        book.do_all([("change", "a", UNCLEAR), ("change", "b", NUMBER), ("change", "a", LETTERS)])
        self.assertEqual(book.whole_kind("a"), LETTERS)
        book.do_all([("change", "a", UNCLEAR), ("free", "a")])
        self.assertEqual(book.kept(), ([], []))
        # A name that isn't there yet, and a ring that would be gone again, are refused all the same.
        self.refused_all(NoName, book, [("define", "x", Named("y")), ("define", "y", NUMBER)], name="y")
        self.refused_all(Ring, book, [("change", "a", Named("b")), ("change", "b", Named("a")), ("change", "a", NUMBER)],
                         ring=["a", "b", "a"])

    def test_only_the_state_between_is_right(self):
        book = book_of(a=UNCLEAR)
        self.refused_all(Unkept, book, [("change", "a", NUMBER), ("keep", "a"), ("change", "a", UNCLEAR)], name="a", other=None)

    def test_no_deed_ahead_of_all_else(self):
        book = book_of(a=NUMBER)
        self.refused_all(NoDeed, book, [("define", "a", NUMBER), ("drop", "zz"), ("frob",), ("drop", "A")], at=2)
        self.refused_all(NoDeed, book, [None], at=0)
        self.refused_all(NoDeed, book, [("drop", "a"), []], at=1)
        for thing in [thing for thing in THINGS if type(thing) is not list] + [(("drop", "a"),), "drop a", {0: ("drop", "a")}]:
            self.refused_all(NoDeed, book, thing, at=0)

    def test_no_deeds(self):
        book = book_of(a=NUMBER)
        self.assertIsNone(book.do_all([]))
        self.assertTrue(book.undo())
        self.assertEqual(len(book), 0)

    def test_what_is_handed_in(self):
        pieces = [("x", NUMBER)]
        kind = Record(pieces)
        deeds = [("define", "a", kind), ("keep", "a")]
        book = Book()
        book.do_all(deeds)
        self.assertEqual(deeds, [("define", "a", kind), ("keep", "a")])
        deeds.clear()
        pieces.append("y")
        self.assertEqual(book.whole_kind("a").write({"x": 5}), "5")
        self.assertEqual(book.kept(), (["a"], []))


class TestUndo(Held):
    def test_behind_each_deed(self):
        book = Book()
        deeds = [("define", "a", NUMBER), ("define", "b", Named("a")), ("keep", "b"), ("keep", "b"), ("define", "c", LETTERS),
                 ("apart", "b", "c"), ("rename", "a", "d"), ("change", "d", Only(1, "?")), ("free", "b"), ("free", "b"),
                 ("drop", "b")]
        texts = [book_text(book)]
        for deed in deeds:
            book.do(deed)
            texts.append(book_text(book))
        for text in texts[-2::-1]:
            self.assertIs(book.undo(), True)
            self.assertEqual(book_text(book), text)
        self.assertIs(book.undo(), False)
        self.assertIs(book.undo(), False)
        self.assertEqual(book, Book())

    def test_several_at_once_as_one(self):
        book = book_of(a=NUMBER)
        book.do_all([("define", "b", NUMBER), ("define", "c", NUMBER), ("drop", "a")])
        self.assertTrue(book.undo())
        self.assertEqual(book.names(), ["a"])
        book.do(("define", "b", LETTERS))
        self.assertTrue(book.undo())
        self.assertTrue(book.undo())
        self.assertFalse(book.undo())

    def test_what_is_refused_is_nothing_to_undo(self):
        book = book_of(a=NUMBER)
        for deed in [("define", "a", NUMBER), ("drop", "z"), ("change", "a", Named("a")), None]:
            self.assertRaises(Exception, book.do, deed)
        self.assertTrue(book.undo())
        self.assertFalse(book.undo())


class TestBook(Held):
    def test_told_lists_are_the_askers_own(self):
        book = book_of(a=NUMBER, b=LETTERS)
        book.do_all([("keep", "a"), ("apart", "a", "b")])
        book.write("a", 5)
        for told in (book.names(), *book.kept(), book.log()):
            told.append("x")
            told.reverse()
        self.assertEqual([book.names(), book.kept(), book.log()], [["a", "b"], (["a"], [("a", "b")]), [("a", "5")]])

    def test_no_name(self):
        book = book_of(a=NUMBER)
        for name in ("b", "", "A", None, 5, True, ["a"], ("a",), {"a": 1}, NUMBER):
            for action in (book.kind_of, book.whole_kind, lambda name: book.write(name, 5)):
                told = refusal(self, NoName, action, name).name
                self.assertEqual(told, name)
        name = ["a"]
        told = refusal(self, NoName, book.kind_of, name)
        name.append("b")
        self.assertEqual(told.name, ["a"])

    def test_equal(self):
        one, other = book_of(a=NUMBER, b=Named("a")), Book()
        other.do(("define", "z", LETTERS))
        other.do(("define", "x", NUMBER))
        other.do_all([("rename", "x", "a"), ("drop", "z"), ("define", "b", Record(["y"])), ("change", "b", Named("a"))])
        self.assertEqual(one, other)
        self.assertTrue(one == other and not one != other)
        one.write("a", 5)
        self.assertEqual(one, other)
        one.do(("keep", "a"))
        self.assertNotEqual(one, other)
        one.do(("free", "a"))
        self.assertEqual(one, other)
        other.do(("change", "b", NUMBER))
        self.assertNotEqual(one, other)
        two = book_of(a=NUMBER, b=LETTERS, c=Only(1, "?"), d=Only(1, "!"))
        two.do_all([("keep", "a"), ("apart", "a", "b"), ("keep", "c"), ("apart", "c", "d"), ("free", "c"), ("rename", "a", "z")])
        three = book_of(z=NUMBER, b=LETTERS, c=Only(1, "?"), d=Only(1, "!"))
        three.do_all([("apart", "b", "z"), ("keep", "z")])
        self.assertEqual(two, three)
        self.assertEqual(read_book(book_text(two)), three)
        for thing in THINGS + [NUMBER, None, {}, ["a", "b"], "a"]:
            self.assertFalse(Book() == thing)
        self.assertEqual(book_of(a=Choice([NUMBER])), book_of(a=Choice((NUMBER,))))

    def test_forty_names_and_four_hundred_deeds(self):
        book = Book()
        names = [a + b for a in "abcde" for b in "klmnopqr"]
        for at, name in enumerate(names):
            book.do(("define", name, Record([f"{name}:", ("x", Named(names[at - 3]) if at % 5 == 4 else NUMBER)])))
            book.do(("keep", name))
            if at:
                book.do(("apart", name, names[at - 1]))
        self.assertEqual(len(book), 40)
        for time in range(280):
            name = names[time % 40]
            if time % 40 % 5 == 4:
                book.do(("keep", name))
            else:
                book.do(("change", name, Record([f"{name}:", ("x", Number(Word(width=time // 40)))])))
        told = refusal(self, Unkept, book.do, ("change", names[0], book.kind_of(names[1])))
        self.assertEqual([told.name, told.other, told.text], [names[0], names[1], names[1] + ":     0"])
        count = 0
        while book.undo():
            count += 1
        self.assertEqual([count, len(book)], [399, 0])


class TestLog(Held):
    def test_through_every_deed_and_undo(self):
        book = book_of(a=Listing(Named("n"), ","), n=NUMBER)
        thing = [1, -2]
        self.assertEqual(book.write("a", thing), "1,-2")
        self.assertEqual(book.write("n", 7), "7")
        log = [("a", "1,-2"), ("n", "7")]
        for deed in [("change", "n", Number(Word(width=3))), ("rename", "n", "m"), ("keep", "m"), ("free", "m"), ("drop", "a")]:
            book.do(deed)
            self.assertEqual(book.log(), log)
        for action in (lambda: book.do(("drop", "zz")), lambda: book.write("zz", 1), lambda: book.write("m", "x")):
            self.assertRaises(Exception, action)
            self.assertEqual(book.log(), log)
        while book.undo():
            self.assertEqual(book.log(), log)
        self.assertEqual([book.logged(0), book.logged(1)], [[1, -2], 7])

    def test_logged_as_it_was_handed_in(self):
        book = book_of(a=Record([("x", Listing(Cases([("t", Number(Word("fixed", places=1)))]), ","))]))
        thing = {"x": [("t", (1, 2))]}
        book.write("a", thing)
        thing["x"].append(5)
        thing["y"] = 1
        self.assertEqual(book.logged(0), {"x": [("t", (1, 2))]})
        told = book.logged(0)
        told["x"].clear()
        self.assertEqual(book.logged(0), {"x": [("t", (1, 2))]})
        self.assertEqual(book.rewritten(0), "0.5")

    def test_too_far(self):
        book = book_of(a=NUMBER)
        for many in range(3):
            for number in (many, many + 1, 10 ** 59):
                self.assertEqual(refusal(self, TooFar, book.logged, number).many, many)
                self.assertEqual(refusal(self, TooFar, book.rewritten, number).many, many)
            book.write("a", many)

    def test_rewritten_by_todays_kind(self):
        book = book_of(n=NUMBER, a=Listing(Named("n"), ","))
        book.write("a", [5, 70])
        self.assertEqual(book.rewritten(0), "5,70")
        book.do(("change", "n", Number(Word(width=3, fill="0"))))
        self.assertEqual(book.rewritten(0), "005,070")
        book.do(("change", "n", Number(Word(), most=50)))
        self.assertEqual(refusal(self, NoThing, book.rewritten, 0).thing, [5, 70])
        book.do(("rename", "a", "b"))
        self.assertEqual(refusal(self, NoName, book.rewritten, 0).name, "a")
        book.do(("define", "a", Listing(NUMBER, " - ")))
        self.assertEqual(book.rewritten(0), "5 - 70")
        self.assertEqual(book.log(), [("a", "5,70")])

    def test_refused(self):
        book = book_of(a=NUMBER)
        self.assertEqual(refusal(self, NoName, book.write, "b", "x").name, "b")
        thing = ["x"]
        told = refusal(self, NoThing, book.write, "a", thing)
        thing.append(1)
        self.assertEqual(told.thing, ["x"])
        self.assertEqual(book.log(), [])


class TestWhole(Held):
    """[4]: drawn histories of deeds in several orders, with refused ones among them."""

    KINDS = [NUMBER, LETTERS, UNCLEAR, Only(1, "ab"), Text("0123456789", least=1), Named("a"), Named("b"), Named("c"), Named("d"),
             Listing(Named("a"), ","), Listing(Named("b"), ",", least=1), Cases([("x", Named("c")), ("y", Only(2, "?"))]),
             Cases([("x", Named("a")), ("y", Named("b"))]), Padded(Named("d"), 3), Record(["<", ("x", Named("a")), ">"]),
             Record([("x", Named("b")), ("y", Named("c"))]), Number(Word(width=2, fill="0", side="left"), least=0)]

    def drawn_deed(self, draw):
        word = draw.choice(["define", "define", "change", "change", "change", "drop", "rename", "keep", "apart", "free", "frob"])
        names = draw.sample("abcde", 2)
        if word in ("define", "change"):
            return (word, names[0], draw.choice(self.KINDS))
        return (word, *names) if word in ("rename", "apart") else (word, names[0])

    def test_histories(self):
        draw = random.Random(41)
        done = refused = 0
        for time in range(30):
            book = Book()
            texts = [book_text(book)]
            for name in draw.sample("abcde", 3):
                book.do(("define", name, draw.choice(self.KINDS[:5])))
                texts.append(book_text(book))
            for step in range(40):
                deeds = [self.drawn_deed(draw) for deed in range(draw.choice([1, 1, 1, 2, 3]))]
                try:
                    book.do_all(deeds) if len(deeds) > 1 else book.do(deeds[0])
                    texts.append(book_text(book))
                    done += 1
                except (NoDeed, Taken, NoName, Needed, Ring, Unkept):
                    self.assertEqual(book_text(book), texts[-1])
                    refused += 1
                self.kept_holds(book)
                if draw.random() < 0.15 and len(texts) > 1:
                    self.assertTrue(book.undo())
                    texts.pop()
                    self.assertEqual(book_text(book), texts[-1])
            for text in texts[-2::-1]:
                self.assertTrue(book.undo())
                self.assertEqual(book_text(book), text)
            self.assertFalse(book.undo())
        self.assertGreater(min(done, refused), 100)

    def test_a_deed_is_refused_just_where_it_would_not_hold(self):
        draw = random.Random(42)
        for time in range(150):
            kinds = [draw.choice(self.KINDS[:5]) for name in "abcd"]
            book = book_of(**dict(zip("abcd", kinds)))
            for name in "abcd":
                told = kind_clear(book.whole_kind(name))
                try:
                    book.do(("keep", name))
                    self.assertEqual(told[0], "clear")
                except Unkept as refused:
                    self.assertEqual([told[0], refused.text], ["alike", told[1]])
            one, two = sorted(draw.sample("abcd", 2))
            told = kinds_apart(book.whole_kind(one), book.whole_kind(two))
            try:
                book.do(("apart", two, one))
                self.assertEqual(told[0], "apart")
            except Unkept as refused:
                self.assertEqual([refused.name, refused.other, told[0], refused.text], [one, two, "met", told[1]])


if __name__ == "__main__":
    unittest.main()
