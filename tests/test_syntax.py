import unittest

from helper import random_datum, seeded, syn
from wherewritten.reading import read
from wherewritten.showing import count_data, deepest
from wherewritten.syntax import (
    added, datum_of, depth, flipped, identifiers, is_set, is_small, occurrence_of, removed, size, syntax_of)

A, B, C = ("core", 0, 0), ("m", 0, 0), ("m", 0, 1)


class TestSyntax(unittest.TestCase):
    def test_of_a_datum(self):
        (datum,) = read("(f 1 \"s\" #t ... _ (x))")
        self.assertEqual(
            syntax_of("n", datum, (A, B)),
            ("list", (("id", "f", ("n", 1), (A, B)), ("atom", "number", 1, ("n", 2)), ("atom", "text", "s", ("n", 3)),
                      ("atom", "flag", True, ("n", 4)), ("atom", "dots", None, ("n", 5)),
                      ("atom", "wild", None, ("n", 6)), ("list", (("id", "x", ("n", 8), (A, B)),), ("n", 7))), ("n", 0)))

    def test_and_back(self):
        rng = seeded(4)
        for _ in range(200):
            (datum,) = read(random_datum(rng, 5, ["a", "b", "1", "#f", "\"s\"", "...", "_"]))
            syntax = syntax_of("m", datum, (A,))
            self.assertEqual(datum_of(syntax), datum)
            self.assertEqual(size(syntax), count_data(datum))
            self.assertEqual(depth(syntax), deepest(datum))

    def test_datum_of_mixed_modules(self):
        syntax = ("list", (("id", "x", ("a", 3), (B,)), ("atom", "number", 1, ("b", 3))), ("c", 9))
        self.assertEqual(datum_of(syntax), ("list", (("name", "x", 3), ("number", 1, 3)), 9))

    def test_scopes(self):
        one, two = ("id", "x", ("m", 1), (A, C)), ("id", "x", ("m", 2), ())
        syntax = ("list", (one, ("list", (two, ("atom", "dots", None, ("m", 4))), ("m", 3))), ("m", 0))

        def sets(changed):
            return [identifier[3] for identifier in identifiers(changed)]

        self.assertEqual(sets(added(syntax, B)), [(A, B, C), (B,)])
        self.assertEqual(sets(added(syntax, C)), [(A, C), (C,)])
        self.assertEqual(sets(removed(syntax, A)), [(C,), ()])
        self.assertEqual(sets(removed(syntax, B)), [(A, C), ()])
        self.assertEqual(sets(flipped(syntax, A)), [(C,), (A,)])
        self.assertEqual(sets(flipped(syntax, B)), [(A, B, C), (B,)])
        self.assertEqual(flipped(flipped(syntax, B), B), syntax)
        self.assertEqual(datum_of(flipped(syntax, A)), datum_of(syntax))

    def test_scopes_are_compared_as_tuples(self):
        x = ("id", "x", ("m", 0), (("a", 10, 0), ("b", 2, 0)))
        self.assertEqual(added(x, ("a", 9, 5))[3], (("a", 9, 5), ("a", 10, 0), ("b", 2, 0)))
        self.assertEqual(added(x, ("b", 2, 1))[3], (("a", 10, 0), ("b", 2, 0), ("b", 2, 1)))

    def test_identifiers_in_order(self):
        self.assertEqual([one[1] for one in identifiers(syn("(a (b (c) 'd) e a)"))], ["a", "b", "c", "quote", "d", "e", "a"])
        self.assertEqual(identifiers(syn("(1 ())")), [])
        self.assertEqual(identifiers(syn("x")), [syn("x")])

    def test_size_and_depth(self):
        for text, many, deep in [("x", 1, 0), ("1", 1, 0), ("()", 1, 1), ("(a (()) b)", 5, 3)]:
            self.assertEqual((size(syn(text)), depth(syn(text))), (many, deep))

    def test_occurrences(self):
        self.assertEqual([occurrence_of(syn(text)) for text in ["x", "1", "(a)"]], [("m", 0)] * 3)

    def test_bounds(self):
        wide = syn("(" + "a " * 2999 + ")")
        self.assertIs(is_small(wide), True)
        self.assertIs(is_small(("list", (wide,), ("m", 0))), False)
        deep = syn("a")
        for _ in range(100):
            deep = ("list", (deep,), ("m", 0))
        self.assertIs(is_small(deep), True)
        self.assertIs(is_small(("list", (deep,), ("m", 0))), False)
        self.assertIs(is_small(("list", (("list", (), ("m", 0)),), ("m", 0))), True)
        many = syn("a")
        for _ in range(90):
            many = ("list", (many,) * 10, ("m", 0))
        self.assertIs(is_small(many), False)

    def test_is_set(self):
        for value in [(), (A,), (A, B, C), (("a", 9, 0), ("a", 10, 0)), (("...a", 0, 0),)]:
            self.assertIs(is_set(value), True, value)
        for value in [
                None, 0, "a", [], [A], {}, {A: 1}, True, (A, A), (B, A), (A, C, B), ([*A],), (A, list(B)), ("m", 0, 0),
                (("m", 0),), (("m", 0, 0, 0),), (("m", True, 0),), (("m", 0, False),), (("m", -1, 0),), (("m", 0, -1),),
                (("m", "0", 0),), (("m", 0, None),), (("m", 0.0, 0),), (("M", 0, 0),), (("", 0, 0),), (("...", 0, 0),),
                (("_", 0, 0),), (("12", 0, 0),), (("#t", 0, 0),), (("a" * 21, 0, 0),), ((b"m", 0, 0),), ((1, 0, 0),),
                ((None, 0, 0),), (None,), (("m", 0, 0), 5), ("abc",), ((("m",), 0, 0),), (("m", 1, 0), ("m", 0, 9))]:
            self.assertIs(is_set(value), False, value)


if __name__ == "__main__":
    unittest.main()
