"""[22]: Words read back from their texts."""

import random
import unittest
from itertools import product

from formatwords.errors import NoText
from formatwords.words import Word
from formatwords.wordtexts import read_word
from tests.helper import MODES, NO_TEXTS, refusal, signature_of

FILLS = [chr(code) for code in range(33, 127) if chr(code) not in "{}" and code != 37]


def parts_of(letter):
    """For each part of a Word's text of this kind, in order, all that can stand there."""
    letters = [mode[0] for mode in MODES if mode != "half"]
    return [
        [""] + list("<^=") + [fill + side for fill in FILLS for side in "<>^="],
        ["", "+", "~", "(", ")"],
        ["", "#"],
        [""] + [str(width) for width in range(1, 25)],
        [""] + ([sign + str(size) for sign in ",_'" for size in range(1, 10)] if letter != "p" else []),
        [""] + ([f".{places}" for places in range(1, 13)] if letter != "w" else []),
        [""] + (["!" + mode for mode in letters] if letter != "w" else []),
        [letter],
        [""] + [str(base) for base in range(2, 37) if base != 10],
        [""] + (["/2", "/3", "/4"] if letter == "p" else []),
    ]


PARTS = {letter: parts_of(letter) for letter in "wfp"}


def far_by(text):
    """How many signs the longest beginning has with which some Word's text begins, and whether all of it is one."""
    far, whole = 0, False
    for letter in "wfp":
        places = {0}
        for choices in PARTS[letter]:
            behind = set()
            for at, choice in product(places, choices):
                rest = text[at:at + len(choice)]
                common = 0
                while common < len(rest) and rest[common] == choice[common]:
                    common += 1
                far = max(far, at + common)
                if rest == choice:
                    behind.add(at + len(choice))
            places = behind
        whole = whole or len(text) in places
    return far, whole


class TestReadWord(unittest.TestCase):
    def looked(self, text):
        far, whole = far_by(text)
        if whole:
            self.assertEqual(str(read_word(text)), text)
        else:
            self.assertEqual(refusal(self, NoText, read_word, text).at, far, text)

    def test_the_document_s_own(self):
        self.assertEqual(read_word("*>+#12,3w16"), Word(base=16, width=12, fill="*", sign="plus", mark=True,
                                                        group=(",", 3)))
        self.assertEqual(read_word("<8w"), Word(width=8, side="left"))
        self.assertEqual(read_word(".2!df"), Word("fixed", places=2, mode="down"))
        self.assertEqual(read_word(".3p/3"), Word("power", places=3, step=3))
        self.assertEqual(refusal(self, NoText, read_word, ".3p10/3").at, 4)

    def test_told_words(self):
        rows = [
            ("w", Word()), ("f", Word("fixed")), ("p", Word("power")), ("<<w", Word(fill="<", side="left")),
            ("<=w", Word(fill="<", side="inner")), (">>w", Word(fill=">")),
            ("0=5w", Word(fill="0", side="inner", width=5)),
            ("+<+w", Word(fill="+", side="left", sign="plus")), ("#^#w", Word(fill="#", side="middle", mark=True)),
            ("w<w", Word(fill="w", side="left")), (".>.2f", Word("fixed", fill=".", places=2)),
            ("5<5w5", Word(fill="5", side="left", width=5, base=5)), ("=w", Word(side="inner")),
            ("1w", Word(width=1)), ("w11", Word(base=11)), ("p2/4", Word("power", base=2, step=4)),
            ("!<!ff", Word("fixed", fill="!", side="left", mode="floor")),
            ("'<'9w", Word(fill="'", side="left", group=("'", 9))), ("8<w", Word(fill="8", side="left")),
        ]
        for text, word in rows:
            self.assertEqual(read_word(text), word)
            self.assertIs(type(read_word(text)), Word)

    def test_read_as_written(self):
        for kind in ("whole", "fixed", "power"):
            for fill, side, sign, mark in product((" ", "*", "<", "#", ".", "+", "3", "w", "~", "/"),
                                                  ("left", "right", "middle", "inner"),
                                                  ("minus", "plus", "blank", "brackets", "behind"), (True, False)):
                word = Word(kind, fill=fill, side=side, sign=sign, mark=mark)
                self.assertEqual(read_word(str(word)), word)
            for width, base in product((0, 1, 9, 10, 19, 20, 24), (2, 3, 9, 10, 11, 12, 19, 20, 30, 36)):
                word = Word(kind, width=width, base=base, fill=str(base)[0])
                self.assertEqual(read_word(str(word)), word)
        for places, mode, step in product((0, 1, 2, 9, 10, 11, 12), MODES, (1, 2, 3, 4)):
            for word in (Word("power", places=places, mode=mode, step=step, width=places),
                         Word("fixed", places=places, mode=mode, group=(",", step + 5), sign="plus"),
                         Word("fixed", places=places, mode=mode, group=None, base=step + 1)):
                self.assertEqual(read_word(str(word)), word)

    def test_each_fill(self):
        for fill in FILLS + [" "]:
            for side in ("left", "right", "middle", "inner"):
                word = Word(fill=fill, side=side)
                self.assertEqual(read_word(str(word)), word)

    def test_where_it_fails(self):
        rows = [
            # Nothing, or what can be no fill.
            ("", 0), (" ", 0), (" <w", 0), (" w", 0), ("{", 0), ("{<w", 0), ("}>w", 0), (chr(37), 0),
            (chr(37) + "<w", 0), ("\n", 0), ("\nw", 0), ("\xe9<w", 0),
            # What could be a fill only.
            ("x", 1), ("xw", 1), (">w", 1), (">", 1), ("0w", 1), ("00w", 1), ("-w", 1), ("W", 1), ("?8w", 1), ("/2", 1),
            # In another order, or twice.
            ("#+w", 1), ("8#w", 1), ("88w", 1), ("++w", 1), ("##w", 1), ("#+", 1), (",3,3w", 2),
            ("8+w", 1), (".2,3f", 2), ("!d.2f", 2), ("ww", 1), ("w2w", 2), ("p/2/2", 3), ("p/22", 3), ("wf", 1),
            ("<<<w", 2), ("<8<w", 2), ("*>*>w", 2), ("~+w", 1), ("()w", 1),
            ("'1'1f", 2), ("''1w", 1),
            # By default, yet written.
            ("*>0w", 2), (".0f", 1), ("!hf", 1), ("w10", 2), ("f10", 2), ("p10", 2), ("p/1", 2), (",0w", 1),
            (".3p10/3", 4),
            # Noughts ahead.
            ("<08w", 1), ("+08w", 1), ("w02", 1), ("w0", 1), (".02f", 1), ("p/02", 2), (",03w", 1),
            # Beyond the bounds.
            ("25w", 1), ("30w", 1), ("99w", 1), ("240w", 2), ("100w", 2), ("w1", 2), ("w37", 2), ("w40", 2),
            ("w100", 2),
            ("w111", 3), (".13f", 2), (".20f", 2), (".120f", 3), ("p/5", 2), ("p/0", 2), (",10w", 2),
            # What does not go with the kind.
            (",3p", 2), (",3.2p", 4), (".2w", 2), ("!dw", 2), (".2!dw", 4), ("w/2", 1), ("f/2", 1), ("w2/2", 2),
            (",3!dp", 4), (",3.2!dw", 6),
            # Cut short.
            ("<", 1), ("*<", 2), ("+", 1), ("+#", 2), ("12", 2), (",", 1), (",3", 2), (".", 1), (".1", 2), (".12", 3),
            ("!", 1), ("!d", 2), ("p/", 2), ("w1", 2), ("p2/", 3), ("p1/", 2),
            # Signs behind.
            ("w ", 1), ("wx", 1), ("w2x", 2), ("p2/3x", 4), ("*>+#12,3w16 ", 11), ("*>+#12,3w167", 11), ("f\n", 1),
        ]
        for text, at in rows:
            with self.subTest(text):
                self.assertEqual(refusal(self, NoText, read_word, text).at, at)
                self.looked(text)

    def test_cut_short_at_each_place_and_with_a_sign_behind(self):
        for text in ("*>+#12,3w16", "<8w", ".2!df", ".3p/3", "/<)#20.12!ep36/3", "=(#9_4.2!rf16", "<<(24'9f11",
                "~<~w2"):
            for at in range(len(text) + 1):
                self.looked(text[:at])
                for sign in " 0129w<#+.!/,zp{":
                    self.looked(text[:at] + sign)
                    self.looked(text[:at] + sign + text[at:])
                    self.looked(text[:at] + sign + text[at + 1:])

    def test_all_of_two_signs(self):
        for first, second in product(FILLS + [" ", "{", "}"], "<>=^+#0139,.!wfp/ dx{"):
            self.looked(first + second)

    def test_by_chance(self):
        chance = random.Random(22)
        for count in range(1500):
            letter = chance.choice("wfp")
            text = "".join(chance.choice(choices) if chance.random() < 0.5 else choices[0] for choices in PARTS[letter])
            self.looked(text)
            at = chance.randrange(len(text) + 1)
            sign = chance.choice("<>=^+~()#0123456789,_'.!dufreh/wp {")
            self.looked(text[:at] + sign + text[at + chance.randrange(2):])

    def test_no_texts(self):
        for thing in NO_TEXTS + [Word(), [Word()], ["w"], b"w"]:
            self.assertEqual(refusal(self, NoText, read_word, thing).at, 0)

    def test_arguments(self):
        self.assertEqual(signature_of(read_word), [("text", False, "none")])
        self.assertEqual(read_word(text="w"), Word())


if __name__ == "__main__":
    unittest.main()
