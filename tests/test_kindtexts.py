"""[110]: kinds written by words, and read back; each bent text held against a reader of its own."""

import random
import re
import unittest

from formatwords.errors import NoKind, NoText, NoWord
from formatwords.kinds import Cases, Choice, Listing, Named, Number, Only, Padded, Record, Sizes, Text
from formatwords.kindtexts import kind_text, read_kind
from formatwords.words import Word
from formatwords.wordtexts import read_word
from tests.helper import THINGS, WIDTH, drawn_kind, refusal, signature_of

NUMBER = Number(Word())
PLAIN = '( number "w . . . . " " )'
WIDE = '( number "w 0 24 . . " " )'
GREAT = 10 ** 59 + 7
FORMS = [
    (NUMBER, PLAIN),
    (Number(Word(width=8, side="left"), least=-5, most=10 ** 59, rest=(2, 7), ahead="$ ", behind="~"),
     '( number "<8w -5 1' + "0" * 59 + ' 2 7 "$~b "~t )'),
    (Number(Word("fixed", places=2, fill="~", width=3), least=(-1, 2), most=(3, 1)), '( number "~t>3.2f -1/2 3/1 . . " " )'),
    (Number(Word("fixed"), least=(0, 1)), '( number "f 0/1 . . . " " )'),
    (Number(Word(), rest=(0, 1), ahead='"', behind="~b"), '( number "w . . 0 1 "" "~tb )'),
    (Only(-5, "minus five"), '( only -5 "minus~bfive )'),
    (Only((1, 3), '"'), '( only 1/3 "" )'),
    (Only((4, 1), "~ "), '( only 4/1 "~t~b )'),
    (Choice([Only(0, "no"), NUMBER]), '( choice ( only 0 "no ) ' + PLAIN + " )"),
    (Text("ab"), '( text "ab 0 . . 0 "~b left )'),
    (Text(' "~', least=1, most=9, quote='"', width=24, fill="~", side="middle"), '( text "~b"~t 1 9 "" 24 "~t middle )'),
    (Text("ab", quote=" ", side="right"), '( text "ab 0 . "~b 0 "~b right )'),
    (Sizes((24, 60, 60), ("d ", ":", ":")), '( sizes 24 60 60 "d~b ": ": )'),
    (Sizes([1000], ["0"]), '( sizes 1000 "0 )'),
    (Record([]), "( record )"),
    (Record(["a b", ("name", NUMBER), "~"]), '( record "a~bb ( field name ' + PLAIN + ' ) "~t )'),
    (Record([("n", NUMBER, "w"), ("w", WIDTH)]), f"( record ( wide n {PLAIN} w ) ( field w {WIDE} ) )"),
    (Record([("n", NUMBER, "w"), "x"], unwritten=[("w", WIDTH), ("keep", WIDTH)]),
     f'( record ( wide n {PLAIN} w ) "x ( hidden w {WIDE} ) ( hidden keep {WIDE} ) )'),
    (Listing(NUMBER, ", "), f'( list {PLAIN} ",~b 0 . )'),
    (Listing(NUMBER, '"', least=2, most=3), f'( list {PLAIN} "" 2 3 )'),
    (Cases([("a", NUMBER), ("apart", Named("b"))]), f"( cases ( a {PLAIN} ) ( apart ( named b ) ) )"),
    (Padded(NUMBER, 5), f'( padded {PLAIN} 5 "~b right )'),
    (Padded(Padded(NUMBER, 0, fill='"', side="middle"), 24, side="left"),
     f'( padded ( padded {PLAIN} 0 "" middle ) 24 "~b left )'),
    (Named("abcdefgh"), "( named abcdefgh )"),
]


class Fault(Exception):
    """What the reader of these tests ends in."""


class Reader:
    """Reads word by word, by the rows of [110]; a fault is told by the number of its word."""

    def __init__(self, text):
        self.words = text.split(" ")
        self.at = 0

    def next(self):
        if self.at == len(self.words):
            raise Fault(self.at)
        return self.words[self.at]

    def want(self, right):
        """The next word, if it is right."""
        word = self.next()
        if not right(word):
            raise Fault(self.at)
        self.at += 1
        return word

    def sign(self, sign):
        self.want(lambda word: word == sign)

    def whole(self, none=False):
        word = self.want(lambda word: re.fullmatch(r"0|-?[1-9][0-9]*", word) or none and word == ".")
        return None if word == "." else int(word)

    def number(self, none=False):
        def right(word):
            if none and word == "." or re.fullmatch(r"0|-?[1-9][0-9]*", word):
                return True
            found = re.fullmatch(r"(0|-?[1-9][0-9]*)/([1-9][0-9]*)", word)
            if not found:
                return False
            top, bottom = abs(int(found[1])), int(found[2])
            while bottom:
                top, bottom = bottom, top % bottom
            return top == 1
        word = self.want(right)
        if "/" in word:
            return tuple(int(part) for part in word.split("/"))
        return None if word == "." else int(word)

    def text(self, right=lambda text: True, none=False):
        def unpacked(word):
            return word[1:].replace("~b", " ").replace("~t", "~")

        def good(word):
            if none and word == ".":
                return True
            return re.fullmatch(r'"([!-$&-}]|~b|~t)*', word) and right(unpacked(word))
        word = self.want(good)
        return None if word == "." else unpacked(word)

    def one_sign(self, none=False):
        return self.text(lambda text: len(text) == 1, none)

    def word(self):
        def right(text):
            try:
                read_word(text)
                return True
            except NoText:
                return False
        return read_word(self.text(right))

    def side(self):
        return self.want(lambda word: word in ("left", "right", "middle", "inner"))

    def name(self):
        return self.want(lambda word: re.fullmatch("[a-z]{1,8}", word))

    def many(self, one):
        """One or more, up to the bracket that closes."""
        found = [one()]
        while self.next() == "(":
            found.append(one())
        return found

    def kind(self):
        self.sign("(")
        forms = {"number": self.number_form, "only": lambda: (self.number(), self.text()),
                 "choice": lambda: (self.many(self.kind),), "sizes": self.sizes_form, "record": self.record_form,
                 "text": lambda: (self.text(), self.whole(), self.whole(True), self.one_sign(True), *self.filling()),
                 "list": lambda: (self.kind(), self.text(), self.whole(), self.whole(True)),
                 "cases": lambda: (self.many(self.case),), "padded": lambda: (self.kind(), *self.filling()),
                 "named": lambda: (self.name(),)}
        form = self.want(lambda word: word in forms)
        parts = forms[form]()
        self.sign(")")
        makers = {"number": lambda word, least, most, rest, ahead, behind: Number(
                      word, least=least, most=most, rest=rest, ahead=ahead, behind=behind),
                  "only": Only, "choice": Choice, "sizes": Sizes, "cases": Cases, "named": Named,
                  "record": lambda pieces, hidden: Record(pieces, unwritten=hidden),
                  "text": lambda signs, least, most, quote, width, fill, side: Text(
                      signs, least=least, most=most, quote=quote, width=width, fill=fill, side=side),
                  "list": lambda kind, between, least, most: Listing(kind, between, least=least, most=most),
                  "padded": lambda kind, width, fill, side: Padded(kind, width, fill=fill, side=side)}
        try:
            return makers[form](*parts)
        except NoKind:
            raise Fault(self.at - 1)

    def filling(self):
        return self.whole(), self.one_sign(), self.side()

    def number_form(self):
        word, least, most, left = self.word(), self.number(True), self.number(True), self.whole(True)
        by = self.whole() if left is not None else self.want(lambda word: word == ".")
        return word, least, most, None if left is None else (left, by), self.text(), self.text()

    def sizes_form(self):
        sizes = [self.whole()]
        while not self.next().startswith('"'):
            sizes.append(self.whole())
        return sizes, [self.text() for size in sizes]

    def case(self):
        self.sign("(")
        found = self.name(), self.kind()
        self.sign(")")
        return found

    def record_form(self):
        pieces, hidden = [], []
        while self.next() != ")":
            if not hidden and self.next() != "(":
                pieces.append(self.text())
                continue
            self.sign("(")
            word = self.want(lambda word: word in (["hidden"] if hidden else ["field", "wide", "hidden"]))
            found = (self.name(), self.kind()) + ((self.name(),) if word == "wide" else ())
            self.sign(")")
            (hidden if word == "hidden" else pieces).append(found)
        return pieces, hidden


def at_by(text):
    """The at of a text, None where it is a kind's."""
    reader = Reader(text)
    try:
        reader.kind()
        if reader.at < len(reader.words):
            return reader.at
    except Fault as fault:
        return fault.args[0]
    return None


class TestKindTexts(unittest.TestCase):
    def at(self, text):
        return refusal(self, NoText, read_kind, text).at

    def test_arguments(self):
        self.assertEqual(signature_of(kind_text), [("kind", False, "none")])
        self.assertEqual(signature_of(read_kind), [("text", False, "none")])
        self.assertEqual(read_kind(text=kind_text(kind=NUMBER)), NUMBER)

    def test_each_form_there_and_back(self):
        for kind, text in FORMS:
            with self.subTest(text=text):
                self.assertEqual(kind_text(kind), text)
                self.assertEqual(read_kind(text), kind)
                self.assertIs(type(read_kind(text)), type(kind))
                self.assertIsNone(at_by(text))

    def test_drawn_there_and_back(self):
        draw = random.Random(31)
        for time in range(400):
            kind = drawn_kind(draw, 3)
            self.assertEqual(read_kind(kind_text(kind)), kind)

    def test_a_long_text(self):
        kind = Cases([(name, Record([("a", Text("ab", quote="'")), ("b", Listing(NUMBER, "x" * 300)), "y" * 400]))
                      for name in "abcdefgh"])
        self.assertGreater(len(kind_text(kind)), 5000)
        self.assertEqual(read_kind(kind_text(kind)), kind)

    def test_bent_at_every_word(self):
        others = ["(", ")", "", ".", "0", "-0", "00", "01", "-1", "5", "25", "1/2", "2/4", "1/1", "0/1", "1/0", "-1/3", '"', '"~',
                  '"~x', '"a', '"ab', '"w', '"f', '"p', '"~b', '"{', "left", "inner", "keep", "a", "abcdefghi", "A", "number",
                  "named", "field", "hidden", "wide", "x\n", '"\n', '"' + chr(37), "1.5", "+1", "-"]
        for kind, text in FORMS:
            words = text.split(" ")
            for at in range(len(words) + 1):
                bent = [words[:at], words[:at] + words[at + 1:], words[:at] + [""] + words[at:]]
                bent += [words[:at] + [other] + words[at + 1:] for other in others]
                bent += [words[:at] + [other] + words[at:] for other in others[at % 5::5]]
                for row in bent:
                    told = at_by(" ".join(row))
                    if told is None:
                        self.assertEqual(kind_text(read_kind(" ".join(row))), " ".join(row))
                    else:
                        self.assertEqual(self.at(" ".join(row)), told, row)

    def test_drawn_and_bent(self):
        draw = random.Random(32)
        for time in range(500):
            words = kind_text(drawn_kind(draw, 3)).split(" ")
            more = kind_text(drawn_kind(draw, 1)).split(" ")
            for time in range(4):
                at = draw.randrange(len(words))
                row = draw.choice([words[:at] + [draw.choice(more)] + words[at + draw.randint(0, 1):], words[:at],
                                   words[:at] + words[at + 1:], words[:at] + more + words[at + 1:]])
                told = at_by(" ".join(row))
                if told is None:
                    self.assertEqual(kind_text(read_kind(" ".join(row))), " ".join(row))
                else:
                    self.assertEqual(self.at(" ".join(row)), told, row)

    def test_blanks_and_ends(self):
        told = {"": 0, " ": 0, "(": 1, "( ": 1, " ( record )": 0, "( record ) ": 3, "( record )  ": 3, "(  record )": 1,
                "( record": 2, "( record ) )": 3, "( record ) ( record )": 3, "record": 0, ")": 0, "( )": 1, "()": 0,
                "( record )x": 2, "( Record )": 1, "( frob )": 1, "( field a ( record ) )": 1, "( whole ( record ) )": 1,
                "( case a ( record ) )": 1, "( number": 2, '( number "w': 3, '( list ( named a )': 6}
        for text, at in told.items():
            self.assertEqual(self.at(text), at, text)
            self.assertEqual(at_by(text), at, text)

    def test_numbers(self):
        for bent, at in {"-0": 3, "00": 3, "007": 3, "+1": 3, "1.0": 3, "": 3, "1/2": 9, "2/4": 3, "1/": 3, "/2": 3, "1/2/3": 3,
                         "1/-2": 3, "--1": 3, "-": 3, "0/2": 3, "5/0": 3, "1/02": 3, '"5': 3}.items():
            self.assertEqual(self.at(f'( number "w {bent} . . . " " )'), at, bent)
        self.assertEqual(self.at('( number "f 5 . . . " " )'), 9)
        self.assertEqual(self.at('( number "f 1/3 . . . " " )'), 9)
        self.assertEqual(self.at('( number "w 5 4 . . " " )'), 9)

    def test_none_where_it_may_not_be(self):
        self.assertEqual(self.at('( text "ab . . . 0 "~b left )'), 3)
        self.assertEqual(self.at('( text "ab 0 . . . "~b left )'), 6)
        self.assertEqual(self.at(f'( list ( record ) "a . . )'), 6)
        self.assertEqual(self.at('( only . "a )'), 2)
        self.assertEqual(self.at('( number . . . . . " " )'), 2)
        self.assertEqual(self.at('( padded ( record ) . "~b left )'), 5)

    def test_left_and_by(self):
        self.assertEqual(self.at('( number "w . . 0 . " " )'), 6)
        self.assertEqual(self.at('( number "w . . . 1 " " )'), 6)
        self.assertEqual(self.at('( number "w . . 2 2 " " )'), 9)
        self.assertEqual(self.at('( number "w . . 2 13 " " )'), 9)
        self.assertEqual(self.at('( number "w . . -1 2 " " )'), 9)

    def test_closing_brackets(self):
        told = {'( named keep )': 3, '( named apart )': 3, '( number "p . . . . " " )': 9, '( only 1 " )': 4,
                '( text "ba 0 . . 0 "~b left )': 9, '( text "ab 0 . . 25 "~b left )': 9, '( text "ab 0 . . 0 "{ left )': 9,
                '( text "ab 0 . . 0 "~b inner )': 9, '( text "ab 3 2 . 0 "~b left )': 9, '( text "ab -1 . . 0 "~b left )': 9,
                '( sizes 1 ": )': 4, '( sizes 24 " )': 4, '( choice ( named a ) )': 6, '( record " )': 3,
                '( record ( wide n ( named a ) w ) )': 11, '( cases ( a ( record ) ) ( a ( record ) ) )': 14,
                '( list ( record ) " 0 . )': 8, '( padded ( record ) 25 "~b left )': 8,
                f'( record ( wide n {PLAIN} w ) )': 17, f'( record ( field a {PLAIN} ) ( field a {PLAIN} ) )': 30,
                '( record ( hidden w ( named a ) ) )': 10}
        for text, at in told.items():
            self.assertEqual(self.at(text), at, text)
            self.assertEqual(at_by(text), at, text)

    def test_of_several_the_least(self):
        self.assertEqual(self.at("( list ( named keep ) x"), 5)
        self.assertEqual(self.at("( list ( named KEEP ) x"), 4)
        self.assertEqual(self.at("( list ( choice ( named keep ) ( named apart"), 7)
        self.assertEqual(self.at('( cases ( a ( only 1 " ) ) ( A ( record ) ) )'), 8)

    def test_how_many(self):
        told = {"( choice )": 2, "( cases )": 2, "( sizes )": 2, "( sizes 24 )": 3, '( sizes 24 60 ": )': 5,
                '( sizes 24 ": ": )': 4, '( sizes 24 ": 60 )': 4, '( sizes ": )': 2, "( named )": 2, "( named a b )": 3,
                '( only 1 "a "b )': 4, "( cases ( a ) )": 4, "( cases a ( record ) )": 2, "( record ( record ) )": 3,
                '( record ( hidden w ' + WIDE + ' ) "x )': 16, f"( record ( hidden w {WIDE} ) ( field a {WIDE} ) )": 17}
        for text, at in told.items():
            self.assertEqual(self.at(text), at, text)
            self.assertEqual(at_by(text), at, text)

    def test_deep_brackets(self):
        self.assertEqual(self.at("( list " * 1200), 2400)
        self.assertEqual(self.at("( record ( field a " * 500 + "x"), 2500)
        self.assertEqual(self.at("( " * 4000), 1)

    def test_of_anything(self):
        for thing in THINGS + [NUMBER, Named("a"), NoWord("x"), ("( record )",), ["( record )"], b"( record )", 1.5]:
            if type(thing) is not str:
                self.assertEqual(self.at(thing), 0)
        self.assertEqual(self.at("( record )\n"), 2)
        self.assertEqual(self.at("(\trecord )"), 0)
        self.assertEqual(self.at("\n"), 0)


if __name__ == "__main__":
    unittest.main()
