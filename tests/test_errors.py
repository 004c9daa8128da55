"""[3]: the refusals."""

import unittest

from formatwords import errors
from formatwords.ranges import Range

ALL = [
    ("NoDigits", ValueError, [("at", 3)]),
    ("NoWord", ValueError, [("field", "base")]),
    ("NoText", ValueError, [("at", 0)]),
    ("NoMachine", ValueError, [("field", "steps")]),
    ("NoRange", ArithmeticError, []),
    ("Nought", ZeroDivisionError, [("top", -5)]),
    ("NoKind", TypeError, [("field", "word")]),
    ("NoThing", LookupError, [("thing", {"a": [1, (2, None)]})]),
    ("NoRow", LookupError, [("at", 7)]),
    ("NoName", KeyError, [("name", "alpha")]),
    ("Taken", KeyError, [("name", "beta")]),
    ("TooFar", IndexError, [("many", 12)]),
    ("Endless", OverflowError, []),
    ("Unclear", RuntimeError, [("text", "10")]),
    ("Needed", RuntimeError, [("name", "alpha"), ("by", "beta")]),
    ("Ring", RuntimeError, [("ring", ["alpha", "beta", "alpha"])]),
    ("Unkept", RuntimeError, [("name", "alpha"), ("other", None), ("text", "1"), ("one", [1]), ("two", (2, 3))]),
    ("NoDeed", NotImplementedError, [("at", 2)]),
    ("NoAsk", Exception, [("row", ["no", "row"])]),
]


class TestRefusals(unittest.TestCase):
    def held(self, refusal, fields):
        for name, value in fields:
            told = getattr(refusal, name)
            self.assertEqual(told, value)
            self.assertIs(type(told), type(value))

    def test_there_are_nineteen(self):
        self.assertEqual(len(ALL), 19)
        self.assertEqual(len({getattr(errors, name) for name, above, fields in ALL}), 19)

    def test_class_above(self):
        for name, above, fields in ALL:
            with self.subTest(name):
                self.assertEqual(getattr(errors, name).__bases__, (above,))
                self.assertEqual(getattr(errors, name).__name__, name)

    def test_none_is_under_another_of_the_program(self):
        classes = [getattr(errors, name) for name, above, fields in ALL]
        for one in classes:
            for other in classes:
                self.assertEqual(issubclass(one, other), one is other)

    def test_by_places(self):
        for name, above, fields in ALL:
            with self.subTest(name):
                refusal = getattr(errors, name)(*[value for field, value in fields])
                self.assertIsInstance(refusal, above)
                self.held(refusal, fields)

    def test_by_names(self):
        for name, above, fields in ALL:
            with self.subTest(name):
                self.held(getattr(errors, name)(**dict(fields)), fields)
                self.held(getattr(errors, name)(**dict(fields[::-1])), fields)

    def test_raised_and_caught(self):
        for name, above, fields in ALL:
            with self.subTest(name):
                with self.assertRaises(above) as caught:
                    raise getattr(errors, name)(*[value for field, value in fields])
                self.held(caught.exception, fields)

    def test_fields_of_anything(self):
        for value in (None, True, 5, "", "x", [], (1, [2]), {"a": {}}, Range((1, 2), None)):
            self.assertEqual(errors.NoThing(value).thing, value)
            self.assertEqual(errors.NoAsk(value).row, value)
            self.assertEqual(errors.Unkept("a", "b", "c", value, value).one, value)
            self.assertEqual(errors.Unkept("a", "b", "c", value, value).two, value)

    def test_what_is_kept_is_a_copy(self):
        ring = ["a", "b", "a"]
        thing = {"a": [1, ([2],)]}
        unkept = errors.Unkept("a", "b", "", thing, thing)
        refusals = [errors.Ring(ring), errors.NoThing(thing), errors.NoAsk(thing)]
        ring.append("c")
        thing["a"][1][0].append(3)
        thing["b"] = 4
        self.assertEqual(refusals[0].ring, ["a", "b", "a"])
        for told in (refusals[1].thing, refusals[2].row, unkept.one, unkept.two):
            self.assertEqual(told, {"a": [1, ([2],)]})


if __name__ == "__main__":
    unittest.main()
