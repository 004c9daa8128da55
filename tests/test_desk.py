"""[120]: a desk, its rows and their answers, and which refusal goes first."""

import unittest

from formatwords.desk import Desk
from formatwords.errors import Needed, NoAsk, NoDeed, NoName, NoRow, NoText, NoThing, Ring, Taken, TooFar, Unclear, Unkept
from formatwords.kinds import Listing, Number, Text
from formatwords.kindtexts import kind_text
from formatwords.words import Word
from tests.helper import THINGS, refusal, signature_of

PLAIN = kind_text(Number(Word()))
LETTERS = kind_text(Text("abc", least=1))
UNCLEAR = kind_text(Listing(Text("a"), ","))
NAMED = '( list ( named n ) ",~b 0 . )'


class TestDesk(unittest.TestCase):
    def desk(self, *rows):
        desk = Desk()
        for row in rows:
            self.assertEqual(desk.say(row), "ok", row)
        return desk

    def says(self, desk, told):
        for row, answer in told:
            found = desk.say(row)
            self.assertEqual(found, answer, row)
            self.assertIs(type(found), str)

    def refused(self, desk, error, row, **fields):
        ahead = [desk.say("names"), desk.say("log")]
        told = refusal(self, error, desk.say, row)
        for name, value in fields.items():
            self.assertEqual(getattr(told, name), value, row)
        self.assertEqual([desk.say("names"), desk.say("log")], ahead)
        return told

    def test_arguments(self):
        self.assertEqual(signature_of(Desk), [])
        self.assertEqual(signature_of(Desk().say), [("row", False, "none")])
        self.assertIn("say", vars(Desk))
        self.assertEqual(Desk().say(row="names"), "-")

    def test_deeds(self):
        desk = self.desk(f"define n {PLAIN}", f"define l {NAMED}", "keep n", f"define a {LETTERS}", "apart n a", "free a",
                         "rename n m", f"change m {LETTERS}", "drop a")
        self.says(desk, [("names", "l m"), ("undo", "ok"), ("names", "a l m"), ("undo", "ok"), ("undo", "ok"), ("names", "a l n")])
        for time in range(6):
            self.assertEqual(desk.say("undo"), "ok")
        self.says(desk, [("names", "-"), ("undo", "none"), ("undo", "none")])

    def test_refused_deeds(self):
        desk = self.desk(f"define n {PLAIN}", f"define l {NAMED}", "keep n")
        self.refused(desk, Taken, f"define n {PLAIN}", name="n")
        self.refused(desk, Taken, "rename n l", name="l")
        self.refused(desk, NoName, "drop zz", name="zz")
        self.refused(desk, NoName, f"change zz {PLAIN}", name="zz")
        self.refused(desk, NoName, "define x ( named y )", name="y")
        self.refused(desk, NoName, "apart n zz", name="zz")
        self.refused(desk, NoName, "free zz", name="zz")
        self.refused(desk, Needed, "drop n", name="n", by="l")
        self.refused(desk, Ring, "change n ( named l )", ring=["l", "n", "l"])
        self.refused(desk, Unkept, f"change n {UNCLEAR}", name="n", other=None, text="")
        self.refused(desk, Unkept, "apart n l", name="l", other="n", text="0")
        self.refused(desk, NoDeed, "apart n n", at=0)
        self.refused(desk, NoDeed, "apart zz zz", at=0)

    def test_a_kind_as_read_kind(self):
        desk = self.desk(f"define n {PLAIN}")
        for row, at in {"define x ": 0, "define x  ": 0, "define x  ( record )": 0, "define x ( record ) ": 3, "define x (": 1,
                        "define x record": 0, "define x ( named keep )": 3, "change n ( record": 2, "define n x": 0,
                        "change zz x": 0, "define x ( record )\n": 2}.items():
            self.refused(desk, NoText, row, at=at)

    def test_clear_and_meet(self):
        desk = self.desk(f"define n {PLAIN}", f"define l {NAMED}", f"define u {UNCLEAR}", f"define a {LETTERS}",
                         'define t ( padded ( text "~ba~t 0 . . 0 "~b left ) 2 "~b right )', 'define o ( only 1 "clear )')
        self.says(desk, [("clear n", "clear"), ("clear u", '"'), ("clear t", '"~b~b'), ("meet n a", "apart"), ("meet n l", '"0'),
                         ("meet l n", '"0'), ("meet l u", '"'), ("meet n n", '"0'), ("meet o o", '"clear'), ("meet t a", '"aa')])

    def test_fault_and_many(self):
        desk = self.desk(f"define n {PLAIN}", f"define l {NAMED}", 'define z ( named l )')
        self.says(desk, [('fault n "12', "row"), ('fault n "1x', "1"), ('fault n "', "0"), ('fault l "1,~b2', "row"),
                         ('fault l "1,2', "2"), ('fault z "1,~b', "3"), ("many n 0", "0"), ("many n 1", "10"), ("many n 2", "99"),
                         ("many l 0", "1"), ("many z 4", str(9000 + 900 + 100)),
                         ("many n 300", str(99 * 10 ** 298))])
        self.assertEqual(len(desk.say("many n 6000")), 6000)

    def test_turn(self):
        desk = self.desk(f"define n {PLAIN}", 'define s ( sizes 60 ":~b )', f"define u {UNCLEAR}", f"define l {NAMED}")
        self.says(desk, [('turn n s "75', '"1:~b15'), ('turn s n "1:~b15', '"75'), ('turn l l "1,~b2', '"1,~b2')])
        self.refused(desk, NoRow, 'turn n s "7x', at=1)
        self.refused(desk, Unclear, 'turn u n "', text="")
        self.refused(desk, NoThing, 'turn n s "-1', thing=-1)
        self.refused(desk, NoThing, 'turn l n "1', thing=[1])

    def test_put_again_and_log(self):
        desk = self.desk(f"define n {PLAIN}", f"define l {NAMED}", f"define u {UNCLEAR}")
        self.says(desk, [("log", "-"), ('put l "1,~b2', "0"), ('put n "7', "1"), ('put l "', "2"),
                         ("log", 'l "1,~b2 n "7 l "'), ("again 0", '"1,~b2'), ("again 2", '"')])
        self.refused(desk, NoRow, 'put n "x', at=0)
        self.refused(desk, NoRow, 'put l "1,~b', at=3)
        self.refused(desk, Unclear, 'put u "', text="")
        self.refused(desk, TooFar, "again 3", many=3)
        self.refused(desk, TooFar, "again 999999999", many=3)
        self.says(desk, [('change n ( number "4w . . . . " " )', "ok"), ("again 0", '"~b~b~b1,~b~b~b~b2'), ("again 1", '"~b~b~b7'),
                         ("change n " + LETTERS, "ok"), ("drop l", "ok")])
        self.refused(desk, NoThing, "again 1", thing=7)
        self.refused(desk, NoName, "again 0", name="l")
        self.says(desk, [("log", 'l "1,~b2 n "7 l "'), ("undo", "ok"), ("undo", "ok"), ("again 1", '"~b~b~b7')])

    def test_names_that_are_not_there(self):
        desk = self.desk(f"define n {PLAIN}")
        for row in ("clear zz", "meet zz n", "meet n zz", "meet zz yy", 'fault zz "x', "many zz 5", 'turn zz n "x', 'turn n zz "x',
                    'turn zz yy "1', 'put zz "1'):
            self.refused(desk, NoName, row, name="zz")

    def test_no_ask(self):
        desk = self.desk(f"define n {PLAIN}", f"define l {NAMED}")
        rows = ["", " ", "frob", "Names", "names ", " names", "names n", "log ", "log 1", "undo ", "undo undo", "define", "define n",
                "define  ", f"define keep {PLAIN}", f"define apart {PLAIN}", f"define N {PLAIN}", f"define  {PLAIN}",
                f"define abcdefghi {PLAIN}", f" define x {PLAIN}", "change n", f"change keep {PLAIN}", "drop", "drop ", "drop n n",
                "drop  n", "drop n ", "drop keep", "drop N", "rename n", "rename n x y", "rename n keep", "rename apart x", "rename n  x",
                "keep", "keep keep", "keep n l", "apart n", "apart n l x", "apart n keep", "free", "free apart", "free n n",
                "clear", "clear n l", "clear keep", "clear N", "meet n", "meet n l l", "meet n keep", "fault n", "fault n x",
                'fault n "x "y', 'fault keep "x', 'fault n "~', 'fault n "~x', "fault n ", 'fault n  "x', 'fault n "\n',
                'fault n "' + chr(37), "many n", "many n x", "many n -1", "many n 01", "many n 00", "many n 1234567890", "many n 1 1",
                "many n +1", "many n 1/2", 'many n "1', "many keep 1", "many n ", 'turn n "1', "turn n l", "turn n l x", 'turn n keep "1',
                'turn n l "1 "2', "put n", "put n 1", 'put keep "1', 'put n "1 ', 'put "1 n', "again", "again x", "again -1", "again 00",
                "again 01", "again 1 1", "again 1234567890", "again  0", "again ", "names\n", "drop n\n", "define\tx (", '"names']
        for row in rows:
            self.assertEqual(self.refused(desk, NoAsk, row).row, row)
        for thing in THINGS + [["names"], ("names",), b"names", Desk(), 1.5]:
            if type(thing) is not str:
                told = self.refused(desk, NoAsk, thing)
                self.assertIs(type(told.row), type(thing))

    def test_what_is_refused_keeps_a_copy(self):
        row = ["names", ["n"]]
        told = refusal(self, NoAsk, Desk().say, row)
        row[1].append("x")
        self.assertEqual(told.row, ["names", ["n"]])

    def test_which_goes_first(self):
        desk = self.desk(f"define n {PLAIN}")
        self.refused(desk, NoAsk, "define keep x")
        self.refused(desk, NoAsk, "fault zz x")
        self.refused(desk, NoAsk, "many zz 01")
        self.refused(desk, NoAsk, 'turn zz keep "x')
        self.refused(desk, NoName, 'turn n zz "x', name="zz")
        self.refused(desk, NoText, "define n (", at=1)
        self.refused(desk, Taken, "define n ( named zz )", name="n")
        self.refused(desk, NoName, 'put zz "x', name="zz")

    def test_two_desks(self):
        one, other = self.desk(f"define n {PLAIN}"), self.desk()
        self.assertEqual([one.say("names"), other.say("names")], ["n", "-"])


if __name__ == "__main__":
    unittest.main()
