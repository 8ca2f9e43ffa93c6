import unittest

from helper import random_datum, seeded
from wherewritten.reading import read
from wherewritten.showing import count_data, deepest, show, show_text

WORDS = ["a", "-", "b!", "0", "-7", "9" * 30, "#t", "#f", "\"\"", "\"; (x\"", "...", "_"]


class TestShowing(unittest.TestCase):
    def test_example(self):
        self.assertEqual(show_text(read("#'(a ...)")), "(syntax (a ...))\n")

    def test_each_kind(self):
        self.assertEqual(show_text(read("a   -12 #t #f\"q  r\"... _ ( a ( ) 'b)")),
                         "a\n-12\n#t\n#f\n\"q  r\"\n...\n_\n(a () (quote b))\n")
        self.assertEqual(show(("list", (("flag", True, 1), ("text", "", 2)), 0)), "(#t \"\")")

    def test_nothing(self):
        self.assertEqual(show_text(()), "")

    def test_read_again(self):
        rng = seeded(3)
        for _ in range(500):
            text = "\n".join(random_datum(rng, 6, WORDS) for _ in range(rng.randrange(4)))
            forms = read(text)
            self.assertEqual(read(show_text(forms)), forms, text)

    def test_counts(self):
        for text, many, deep in [("a", 1, 0), ("()", 1, 1), ("'a", 3, 1), ("(a (b) ((c)))", 7, 3), ("(() (()))", 4, 3),
                                 ("\"s\"", 1, 0), ("(" * 60 + ")" * 60, 60, 60)]:
            with self.subTest(text):
                (datum,) = read(text)
                self.assertEqual((count_data(datum), deepest(datum)), (many, deep))

    def test_deep(self):
        datum = ("name", "a", 0)
        for _ in range(120):
            datum = ("list", (datum,), 0)
        self.assertEqual(show(datum), "(" * 120 + "a" + ")" * 120)
        self.assertEqual((count_data(datum), deepest(datum)), (121, 120))


if __name__ == "__main__":
    unittest.main()
