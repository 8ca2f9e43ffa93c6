"""Laying out texts (points 68 and 69)."""

import re
import unittest

from helper import outcome, random_datum, seeded
from samples import SAMPLES
from wherewritten.layout import laid_out, remarks
from wherewritten.library import library
from wherewritten.reading import offsets, read

WORDS = ["x", "list", "a-long-name-of-twenty", "42", "-7", "#t", "...", "_", "\"a ; b\"", "\"\"", "\"" + "long " * 9 + "\"", "()", "(a b)"]


def random_text(rng, forms=4):
    """A text with remarks at many places."""
    def gap():
        pick = rng.random()
        if pick < 0.8:
            return rng.choice([" ", " ", "\n", "  \n "])
        return rng.choice([" ", "", "\n"]) + rng.choice(["; r", ";", ";; (a b \"c", ";' #'  ", "; " + "w " * 30]) + "\n" + rng.choice(["", " "])
    pieces = []
    for _ in range(rng.randrange(forms + 1)):
        datum = random_datum(rng, rng.randrange(7), WORDS)
        for token in re.findall("\"[^\"]*\"|#'|[()']|[^ ()'\"]+", datum):
            pieces.append(token)
            # A word needs something behind it if another word follows.
            pieces.append(gap() if token not in ("(", ")", "'", "#'") or rng.random() < 0.3 else "")
        pieces.append(" ")
    return "".join(pieces) + rng.choice(["", gap(), "; the end", "; the end  "])


# Layout in another way: data as lists of tokens, and lines that are put together from inside.

def plain_tree(text):
    tokens = re.findall("\"[^\"\n]*\"|#'|[()']|;[^\n]*|[^ \n()'\";]+", text)
    at = 0

    def take_remarks():
        nonlocal at
        found = []
        while at < len(tokens) and tokens[at][0] == ";":
            found.append(tokens[at].rstrip(" "))
            at += 1
        return found

    def datum():
        nonlocal at
        token = tokens[at]
        at += 1
        if token in ("'", "#'"):
            more = take_remarks()
            inner, late = datum()
            return {"sign": token, "of": inner}, more + late
        if token != "(":
            return {"word": token}, []
        parts = []
        while True:
            ahead = take_remarks()
            if tokens[at] == ")":
                at += 1
                return {"parts": parts, "last": ahead}, []
            inner, late = datum()
            parts.append((ahead + late, inner))
    forms = []
    while True:
        ahead = take_remarks()
        if at == len(tokens):
            return forms, ahead
        inner, late = datum()
        forms.append((ahead + late, inner))


def has_remark(tree):
    if "of" in tree:
        return has_remark(tree["of"])
    return "parts" in tree and bool(tree["last"] or any(ahead or has_remark(inner) for ahead, inner in tree["parts"]))


def flat(tree):
    if "word" in tree:
        return tree["word"]
    if "sign" in tree:
        return tree["sign"] + flat(tree["of"])
    return "(" + " ".join(flat(inner) for _, inner in tree["parts"]) + ")"


def is_flat(tree, indent, closing, width):
    return not has_remark(tree) and len(flat(tree)) <= width - indent - closing


def plain_lines(tree, indent, closing, width):
    """The lines of a tree, the first one without its indent."""
    if is_flat(tree, indent, closing, width) or "word" in tree or tree == {"parts": [], "last": []}:
        return [flat(tree)]
    if "sign" in tree:
        lines = plain_lines(tree["of"], indent + len(tree["sign"]), closing, width)
        return [tree["sign"] + lines[0], *lines[1:]]
    parts, last = tree["parts"], tree["last"]
    end = 0 if last else closing + 1
    lines = ["("]
    for at, (ahead, inner) in enumerate(parts):
        after = end if at == len(parts) - 1 else 0
        if at == 1 and not ahead and "parts" not in parts[0][1] and is_flat(parts[0][1], indent + 1, 0, width):
            column = indent + 2 + len(flat(parts[0][1]))
            if is_flat(inner, column, after, width):
                lines[-1] += " " + flat(inner)
                continue
        column = indent + (1 if at == 0 else 2)
        inside = plain_lines(inner, column, after, width)
        lines.extend(" " * (indent + 2) + remark for remark in ahead)
        if at == 0 and not ahead:
            lines[-1] += inside[0]
        else:
            lines.append(" " * column + inside[0])
        lines.extend(inside[1:])
    lines.extend(" " * (indent + 2) + remark for remark in last)
    if last:
        lines.append(" " * indent + ")")
    else:
        lines[-1] += ")"
    return lines


def plain_layout(text, width):
    forms, ahead = plain_tree(text)
    lines = []
    for before, tree in forms:
        lines.extend([*before, *plain_lines(tree, 0, 0, width)])
    return "".join(line + "\n" for line in [*lines, *ahead])


class TestLayout(unittest.TestCase):
    def check(self, text, width, *lines):
        told = laid_out(text, width)
        self.assertEqual(told, "".join(line + "\n" for line in lines), text)
        self.assertEqual(laid_out(told, width), told)

    def test_flat(self):
        self.check("", 20)
        self.check(" \n ", 20)
        self.check("a  b\n(c   d)", 20, "a", "b", "(c d)")
        self.check("(a ( b ) ' c #'\n(d))", 20, "(a (b) 'c #'(d))")
        self.check("(quote x) 'x (syntax x)", 20, "(quote x)", "'x", "(syntax x)")
        self.check("\"a  b\" #t -5 ... _", 20, "\"a  b\"", "#t", "-5", "...", "_")
        # 20 and 21 characters.
        self.check("(abcdefgh abcdefghi)", 20, "(abcdefgh abcdefghi)")
        self.check("(abcdefghi abcdefghi)", 20, "(abcdefghi", "  abcdefghi)")
        self.check("(abcdefghi abcdefghi)", 21, "(abcdefghi abcdefghi)")

    def test_lists(self):
        text = "(define-it (first argument) (second argument) third)"
        self.check(text, 52, text)
        self.check(text, 51, "(define-it (first argument)", "  (second argument)", "  third)")
        self.check(text, 26, "(define-it", "  (first argument)", "  (second argument)", "  third)")
        self.check(text, 27, "(define-it (first argument)", "  (second argument)", "  third)")
        # A first part that is a list has its own line, and so have all others.
        self.check("((abc def) (ghi jkl) mno)", 20, "((abc def)", "  (ghi jkl)", "  mno)")
        self.check("(() abcdefghijk abcdefghijk)", 20, "(()", "  abcdefghijk", "  abcdefghijk)")
        self.check("((abcdefgh abcdefgh abcdefgh) abc)", 20, "((abcdefgh abcdefgh", "   abcdefgh)", "  abc)")

    def test_closing_brackets_are_counted(self):
        # The last part has as many brackets behind it as end there.
        self.check("(a (b (c defghijk)))", 20, "(a (b (c defghijk)))")
        self.check("(a (b (c defghijkl)))", 20, "(a", "  (b (c defghijkl)))")
        self.check("(aa (bb (cc (dd ee f))))", 20, "(aa", "  (bb", "    (cc (dd ee f))))")
        self.check("(aa (bb (cc (dd ee ffg))))", 20, "(aa", "  (bb", "    (cc", "      (dd ee ffg))))")
        self.check("((abcdefghijklmnopqr))", 20, "((abcdefghijklmnopqr))")
        self.check("(abcdefgh abcdefgh x)", 20, "(abcdefgh abcdefgh", "  x)")
        # Ahead of another part there is none.
        self.check("(abcdefgh abcdefghij x)", 20, "(abcdefgh abcdefghij", "  x)")
        self.check("(abcdefgh abcdefghijk x)", 20, "(abcdefgh", "  abcdefghijk", "  x)")
        # Behind a second part that is the last one there is at least one.
        self.check("((abcdefghij (abcde)) x)", 20, "((abcdefghij", "   (abcde))", "  x)")
        self.check("((abcdefghij (abcd)) x)", 20, "((abcdefghij (abcd))", "  x)")

    def test_signs(self):
        self.check("('abc (def ghi) (jkl mno))", 20, "('abc (def ghi)", "  (jkl mno))")
        self.check("('(abc) (def ghi) (jkl mn))", 20, "('(abc) (def ghi)", "  (jkl mn))")
        self.check("('(abc def ghi jkl mno) (pqr))", 20, "('(abc def", "    ghi", "    jkl", "    mno)", "  (pqr))")
        self.check("(#''(abc def ghi jkl mno))", 20, "(#''(abc def", "      ghi", "      jkl", "      mno))")
        self.check("'#'(abcdefgh abcdefgh)", 20, "'#'(abcdefgh", "     abcdefgh)")
        self.check("'\"" + "x" * 30 + "\"", 20, "'\"" + "x" * 30 + "\"")

    def test_what_has_no_other_way(self):
        long = "\"" + "y" * 40 + "\""
        self.check(long, 20, long)
        self.check(f"(a {long} b)", 20, "(a", f"  {long}", "  b)")
        self.check(f"({long} a b)", 20, f"({long}", "  a", "  b)")
        deep = "(" * 40 + "a" + ")" * 40
        self.check(deep, 20, deep)
        deep = "(a " * 12 + "b" + ")" * 12
        self.assertEqual(laid_out(deep, 20).split("\n")[11], "  " * 11 + "(a")
        self.assertEqual(laid_out(deep, 20).split("\n")[12], "  " * 12 + "b" + ")" * 12)

    def test_remarks(self):
        self.check("; one  \n;two\na ; three\nb ;", 20, "; one", ";two", "a", "; three", "b", ";")
        self.check("(a ; r\n b)", 20, "(a", "  ; r", "  b)")
        self.check("(a b ; r\n )", 20, "(a b", "  ; r", ")")
        self.check("(a b ; r\n c)", 20, "(a b", "  ; r", "  c)")
        self.check("(; r\n a b c)", 20, "(", "  ; r", " a b", "  c)")
        self.check("(; r\n (a) b)", 20, "(", "  ; r", " (a)", "  b)")
        self.check("( ; r\n ; s\n )", 20, "(", "  ; r", "  ; s", ")")
        self.check("((; r\n ) a)", 20, "((", "   ; r", " )", "  a)")
        self.check("((a ; r\n ) b) c", 20, "((a", "   ; r", " )", "  b)", "c")
        self.check("(a (b ; r\n ))", 20, "(a", "  (b", "    ; r", "  ))")
        self.check("(a b) ; r", 20, "(a b)", "; r")
        self.check("; " + "w " * 30, 20, "; " + "w " * 29 + "w")

    def test_remarks_behind_signs(self):
        self.check("' ; r\n a", 20, "; r", "'a")
        self.check("; q\n' ; r\n #' ; s\n (a b)", 20, "; q", "; r", "; s", "'#'(a b)")
        self.check("(a ; q\n ' ; r\n #';s\nb)", 20, "(a", "  ; q", "  ; r", "  ;s", "  '#'b)")
        self.check("('; r\n a b)", 20, "(", "  ; r", " 'a b)")
        self.check("'( ; r\n a)", 20, "'(", "   ; r", "  a)")
        self.check("(a '(b ; r\n))", 20, "(a", "  '(b", "     ; r", "   ))")

    def test_closing_brackets_behind_a_remark(self):
        # The last part ahead of the remark has no bracket directly behind it.
        self.check("(a (abcdefgh abcdefg) ; r\n)", 20, "(a", "  (abcdefgh abcdefg)", "  ; r", ")")
        self.check("(a (abcdefgh abcdefg))", 20, "(a", "  (abcdefgh", "    abcdefg))")
        self.check("(b (a (abcdef abcdef ; r\n)))", 20, "(b", "  (a", "    (abcdef abcdef", "      ; r", "    )))")

    def test_remarks_function(self):
        self.assertEqual(remarks(""), [])
        self.assertEqual(remarks("a \"; no\" ; yes  \n;;\n' ; x ; y\n b;z"), ["; yes", ";;", "; x ; y", ";z"])
        self.assertEqual(remarks("; a (\n"), ["; a ("])

    def test_errors(self):
        for text, at in (("(a", 2), (")", 0), ("a 1x", 2), ("; fine\n'", 8), ("\"", 0), (" " * 6001, 6000), ("; " + "x" * 6000, 6000)):
            self.assertEqual(outcome(laid_out, text, 40), ("ReadError", at))
            self.assertEqual(outcome(remarks, text), ("ReadError", at))

    def test_long_texts(self):
        told = laid_out("(" * 50 + "a " * 2900 + ")" * 50, 20)
        self.assertGreater(len(told), 6000)
        self.assertEqual(told.split("\n")[:2], ["(" * 50 + "a", " " * 51 + "a"])

    def check_all(self, text, width):
        told = laid_out(text, width)
        self.assertEqual(told, plain_layout(text, width), (text, width))
        self.assertEqual(remarks(told) if len(told) <= 6000 else remarks(text), remarks(text))
        if len(told) > 6000:
            return
        self.assertEqual(read(told), read(text))
        self.assertEqual(laid_out(told, width), told)
        for line in told.split("\n"):
            # Only what stands alone in its line makes this too long.
            if len(line) > width and ";" not in line.replace("; b", ""):
                self.assertEqual(len(re.findall("\"[^\"]*\"|[^ ()'\"#]+", line)), 1 if line.strip("()' #") else 0, line)

    def test_random_texts(self):
        rng = seeded(43)
        many = 0
        for _ in range(2500):
            text = random_text(rng)
            if outcome(read, text)[0] == "gives":
                many += ";" in text
                self.check_all(text, rng.choice([20, 21, 25, 30, 40, 79, 200]))
        self.assertGreater(many, 800)

    def test_modules(self):
        for text in [*SAMPLES.values(), *library().values()]:
            for width in (20, 33, 50, 80, 110, 200):
                self.check_all(text, width)
                self.assertEqual(len(offsets(laid_out(text, width))), len(offsets(text)))


if __name__ == "__main__":
    unittest.main()
