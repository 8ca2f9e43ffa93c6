import re
import unittest

from helper import outcome, random_datum, seeded
from wherewritten.reading import is_name, offsets, read, tokens
from wherewritten.showing import count_data, show_text


def sorts(text):
    return [(sort, text[start:end]) for sort, start, end in tokens(text)]


def fault(text):
    """The index of the ReadError, or None."""
    result = outcome(read, text)
    return result[1] if result[0] == "ReadError" else None


class TestTokens(unittest.TestCase):
    def test_each_sort(self):
        self.assertEqual(
            sorts("(a '12 #'#t) \"x;y\" ... _ A"),
            [("sign", "("), ("name", "a"), ("sign", "'"), ("number", "12"), ("sign", "#'"), ("flag", "#t"),
             ("sign", ")"), ("string", "\"x;y\""), ("dots", "..."), ("wild", "_"), ("wrong", "A")])

    def test_places_in_the_text(self):
        self.assertEqual(tokens(" ab\n(#'\"\""), [("name", 1, 3), ("sign", 4, 5), ("sign", 5, 7), ("string", 7, 9)])

    def test_nothing(self):
        for text in ["", " ", "\n \n", "; only this", ";a\n ;b\n", ";"]:
            with self.subTest(text):
                self.assertEqual(tokens(text), [])
                self.assertEqual(read(text), ())
                self.assertEqual(offsets(text), [])

    def test_remarks_separate(self):
        self.assertEqual(sorts("a;b c\nd;"), [("name", "a"), ("name", "d")])
        self.assertEqual(sorts("\"a;b\"c"), [("string", "\"a;b\""), ("name", "c")])
        self.assertEqual(sorts("a\"b\"c(d"),
                         [("name", "a"), ("string", "\"b\""), ("name", "c"), ("sign", "("), ("name", "d")])

    def test_numbers(self):
        for word in ["0", "7", "10", "-1", "-10", "9" * 30, "-" + "9" * 30]:
            self.assertEqual(sorts(word), [("number", word)], word)
        for word in ["-0", "00", "01", "-01", "1a", "-1a", "1-", "9" * 31, "-" + "9" * 31, "1.", "1#", "0x"]:
            self.assertEqual(sorts(word), [("wrong", word)], word)

    def test_names(self):
        for word in ["a", "-", "--1", "-a", "+1", ".5", "..", "....", "__", "_1", "?", "a" * 20, "!*+-./:<=>?_"]:
            self.assertEqual(sorts(word), [("name", word)], word)
            self.assertIs(is_name(word), True, word)
        for word in ["a" * 21, "aB", "#", "#T", "#tt", "##", "a#", "a,b", "[", "\\", "$", "@", "~", "a%b", "\ta"]:
            self.assertEqual(sorts(word), [("wrong", word)], word)
            self.assertIs(is_name(word), False, word)

    def test_is_name_takes_any_text(self):
        for word in ["", " ", "a b", "0", "12", "-1", "-0", "...", "_", "#t", "(", "a\n", "\n", "\u00e9", "\u0661",
                     "\u00b2", "-\u0661", "a" * 5000, "'a", "\"a\"", ";", "a;"]:
            self.assertIs(is_name(word), False, word)

    def test_syntax_sign(self):
        self.assertEqual(sorts("#'#'a"), [("sign", "#'"), ("sign", "#'"), ("name", "a")])
        self.assertEqual(sorts("'#'a"), [("sign", "'"), ("sign", "#'"), ("name", "a")])
        self.assertEqual(sorts("a#'b"), [("wrong", "a#"), ("sign", "'"), ("name", "b")])
        self.assertEqual(sorts("##'b"), [("wrong", "##"), ("sign", "'"), ("name", "b")])
        self.assertEqual(sorts("# 'b"), [("wrong", "#"), ("sign", "'"), ("name", "b")])
        self.assertEqual(sorts("#;'b\n"), [("wrong", "#")])
        self.assertEqual(sorts("#("), [("wrong", "#"), ("sign", "(")])
        self.assertEqual(sorts("a'b'"), [("name", "a"), ("sign", "'"), ("name", "b"), ("sign", "'")])

    def test_strings(self):
        long = "\"" + "x" * 100 + "\""
        self.assertEqual(sorts(long), [("string", long)])
        longer = "\"" + "x" * 101 + "\""
        self.assertEqual(tokens(longer + "a"), [("wrong", 0, 103), ("name", 103, 104)])
        self.assertEqual(tokens("a \"bc\n\"d\""), [("name", 0, 1), ("wrong", 2, 5), ("string", 6, 9)])
        self.assertEqual(tokens("\"bc"), [("wrong", 0, 3)])
        self.assertEqual(tokens("\""), [("wrong", 0, 1)])
        self.assertEqual(tokens("\"\n\""), [("wrong", 0, 1), ("wrong", 2, 3)])
        self.assertEqual(tokens("\"a;b\n"), [("wrong", 0, 4)])
        self.assertEqual(tokens("\"" + "x" * 101), [("wrong", 0, 102)])

    def test_against_an_expression(self):
        pattern = re.compile(
            "(?P<blank>[ \n]+|;[^\n]*)|(?P<string>\"[^\"\n]{0,100}\")|(?P<wrong1>\"[^\"\n]*\"?)|(?P<sign>#'|[()'])"
            "|(?P<word>[^ \n()'\";]+)")
        word_pattern = re.compile(
            "(?P<number>0|-?[1-9][0-9]{0,29})|(?P<flag>#[tf])|(?P<dots>[.]{3})|(?P<wild>_)"
            "|(?P<name>(?!-?[0-9])[-a-z0-9!*+./:<=>?_]{1,20})")

        def told(text):
            found = []
            at = 0
            while at < len(text):
                match = pattern.match(text, at)
                sort = match.lastgroup
                if sort == "word":
                    word = word_pattern.fullmatch(match.group())
                    sort = word.lastgroup if word else "wrong"
                if sort != "blank":
                    found.append((sort.rstrip("1"), match.start(), match.end()))
                at = match.end()
            return found

        rng = seeded(1)
        for _ in range(4000):
            text = "".join(rng.choice("ab01-._#'\"() \n;t?A#'\"") for _ in range(rng.randrange(14)))
            # A # that ends a longer word is no sign; the expression cannot tell.
            if not re.search("[^ \n()'\";]#'", text):
                self.assertEqual(tokens(text), told(text), repr(text))


class TestRead(unittest.TestCase):
    def test_example(self):
        self.assertEqual(
            read("(f 'x) ; done"),
            (("list", (("name", "f", 1), ("list", (("name", "quote", 3), ("name", "x", 4)), 2)), 0),))

    def test_kinds(self):
        self.assertEqual(
            read("a -12 #t #f \"q r\" ... _ ()"),
            (("name", "a", 0), ("number", -12, 1), ("flag", True, 2), ("flag", False, 3), ("text", "q r", 4),
             ("dots", None, 5), ("wild", None, 6), ("list", (), 7)))

    def test_kinds_of_values(self):
        number, truth = read("1 #t")
        self.assertIs(type(number[1]), int)
        self.assertIs(truth[1], True)
        self.assertIsInstance(read("(a)")[0][1], tuple)

    def test_signs(self):
        self.assertEqual(
            read("'#'d e"),
            (("list", (("name", "quote", 1), ("list", (("name", "syntax", 3), ("name", "d", 4)), 2)), 0),
             ("name", "e", 5)))
        self.assertEqual(read("'()"), (("list", (("name", "quote", 1), ("list", (), 2)), 0),))
        self.assertEqual(read("' ;a\n  ( b )"), read("'(b)"))

    def test_places_do_not_depend_on_blanks_remarks_and_lengths(self):
        self.assertEqual(read("(a 'b (c) d)"), read(" ;x\n( a;(\n ' b\n(c ) d ) ;)"))

    def test_offsets(self):
        self.assertEqual(offsets("(a 'b) #'c"), [0, 1, 3, 3, 4, 7, 7, 9])
        self.assertEqual(offsets("''x"), [0, 0, 1, 1, 2])
        self.assertEqual(offsets(" ; (\n \"s\"'  #'()"), [6, 9, 9, 12, 12, 14])

    def test_offsets_tell_all_data(self):
        rng = seeded(2)
        for _ in range(300):
            text = random_datum(rng, 5, ["a", "12", "#t", "\"s\"", "...", "_"])
            (form,) = read(text)
            starts = offsets(text)
            self.assertEqual(len(starts), count_data(form))
            left = [form]
            while left:
                kind, value, place = left.pop()
                at = starts[place]
                if kind == "list":
                    left.extend(value)
                    self.assertIn(text[at], "('#")
                elif kind == "name" and value != "a":
                    self.assertIn(text[at], "'#")
                else:
                    self.assertEqual(show_text(((kind, value, 0),)).strip(), text[at:].split(")")[0].split(" ")[0])

    def test_wrong_tokens(self):
        for text, at in [
                ("A", 0), ("a B", 2), ("(a -0)", 3), ("a#'b", 0), ("'1x", 1), ("\"a\nb\"", 0), ("a \"b", 2),
                (" \"" + "y" * 101 + "\"", 1), ("#", 0), ("(((#)))", 3), ("a" * 21, 0), ("9" * 31, 0)]:
            with self.subTest(text):
                self.assertEqual(fault(text), at)
                self.assertEqual(outcome(offsets, text), ("ReadError", at))

    def test_signs_that_cannot_stand(self):
        for text, at in [(")", 0), ("a )", 2), ("() )", 3), ("(')", 2), ("(#' ;\n )", 7), ("')", 1), ("'') (", 2),
                         ("(a '", 4), ("(", 1), ("(a ;)", 5), ("'", 1), ("#'", 2), ("' ;x", 4), ("((a) ", 5), ("''", 2)]:
            with self.subTest(text):
                self.assertEqual(fault(text), at)

    def test_the_first_of_several(self):
        for text, at in [("(A", 1), (") A", 0), ("(a \"x\n)", 3), ("' A )", 2), ("'a ) B", 3), ("( ' ) ) A", 4)]:
            with self.subTest(text):
                self.assertEqual(fault(text), at)

    def test_depth(self):
        self.assertIsNone(fault("(" * 60 + ")" * 60))
        self.assertEqual(fault("(" * 61 + ")" * 61), 60)
        self.assertEqual(fault("(" * 61), 60)
        self.assertEqual(fault("(" * 60), 60)
        self.assertIsNone(fault("'" * 60 + "x"))
        self.assertEqual(fault("'" * 61 + "x"), 60)
        self.assertEqual(fault("'" * 61), 60)
        self.assertIsNone(fault("#'" * 60 + "x"))
        self.assertEqual(fault("#'" * 61 + "x"), 120)
        self.assertEqual(fault("(" * 60 + "'x"), 60)
        self.assertEqual(fault("(" * 59 + "'()" + ")" * 59), 60)
        self.assertIsNone(fault("(" * 59 + "'x ()" + ")" * 59))
        self.assertEqual(fault("(" * 59 + "'x () (())" + ")" * 59), 66)
        self.assertEqual(fault("(" * 60 + "a () B"), 62)
        self.assertEqual(fault("(" * 3000 + ")" * 3000), 60)
        self.assertEqual(fault("'" * 60 + ")"), 60)

    def test_length(self):
        self.assertEqual(len(read("a " * 3000)), 3000)
        self.assertEqual(fault("a " * 3000 + "a"), 6000)
        self.assertEqual(fault(")" * 6001), 6000)
        self.assertEqual(fault(" " * 6001), 6000)
        self.assertEqual(outcome(offsets, "A" * 6001), ("ReadError", 6000))
        self.assertEqual(fault(" " * 5999 + "("), 6000)
        self.assertEqual(fault(" " * 5999 + ")"), 5999)

    def test_new_lists(self):
        self.assertIsNot(tokens("a"), tokens("a"))
        self.assertIsNot(offsets("a"), offsets("a"))


if __name__ == "__main__":
    unittest.main()
