import unittest

from helper import AT, call, flag, fn, local, number, plain_list, prim, stx, syn, text
from wherewritten.reading import is_name
from wherewritten.terms import primitives, show_plain, show_term

NAMES = """* + - < = bound=? cons datum empty? fail first flag? free=? fresh identifier? join list list? local-value not
number? parts procedure? recolored rest same? syntax? text? wrap""".split()


class TestPrimitives(unittest.TestCase):
    def test_names(self):
        self.assertEqual(primitives(), NAMES)
        self.assertEqual(primitives(), sorted(primitives()))
        self.assertTrue(all(is_name(name) for name in primitives()))
        self.assertIsNot(primitives(), primitives())


class TestShowPlain(unittest.TestCase):
    def test_each_kind(self):
        one, empty = ("number", -1), plain_list()
        for value, shown in [
                (one, "-1"), (("number", 0), "0"), (("flag", True), "#t"), (("flag", False), "#f"), (("text", "a b"), "\"a b\""),
                (("text", ""), "\"\""), (empty, "()"), (plain_list(one), "(-1)"),
                (plain_list(one, plain_list(empty, ("text", "x")), ("flag", True)), "(-1 (() \"x\") #t)")]:
            self.assertEqual(show_plain(value), shown)


class TestShowTerm(unittest.TestCase):
    def shows(self, *pairs):
        for term, shown in pairs:
            with self.subTest(shown):
                self.assertEqual(show_term(term), shown)

    def test_leaves(self):
        self.shows(
            (number(-3), "-3"), (flag(True), "#t"), (flag(False), "#f"), (text("a"), "\"a\""),
            (("const", plain_list()), "(quote ())"), (("const", plain_list(("number", 1), plain_list())), "(quote (1 ()))"),
            (prim("list"), "list"), (("top", "mod", 2, 5, AT), "mod:2:5"))

    def test_forms(self):
        self.shows(
            (fn((), number(1)), "(fn () 1)"), (fn((5,), local(5)), "(fn (v0) v0)"),
            (fn((9, 3), call("-", local(3), local(9))), "(fn (v0 v1) (- v1 v0))"), (call("list"), "(list)"),
            (call(fn((7,), local(7)), number(1)), "((fn (v0) v0) 1)"),
            (("if", flag(True), number(1), number(2)), "(if #t 1 2)"), (("do", (number(1),)), "(do 1)"),
            (("do", (number(1), text("b"), number(3))), "(do 1 \"b\" 3)"),
            (("set", ("top", "m", 0, 1, AT), number(1)), "(set m:0:1 1)"),
            (fn((1,), ("set", local(1), call("+", local(1), number(1)))), "(fn (v0) (set v0 (+ v0 1)))"),
            (("rec", (), number(1)), "(letrec () 1)"), (("rec", ((4, number(1)),), local(4)), "(letrec ((v0 1)) v0)"),
            (("rec", ((4, local(6)), (6, local(4))), call(local(6), local(4))), "(letrec ((v0 v1) (v1 v0)) (v1 v0))"))

    def test_numbers_of_variables(self):
        inner = ("rec", ((30, fn((12,), call(local(30), local(12), local(8)))), (2, fn((1,), local(2)))), local(8))
        self.shows(
            (fn((8,), inner), "(fn (v0) (letrec ((v1 (fn (v3) (v1 v3 v0))) (v2 (fn (v4) v2))) v0))"),
            (call(fn((8,), local(8)), fn((7,), local(7)), fn((6,), local(6))),
             "((fn (v0) v0) (fn (v1) v1) (fn (v2) v2))"),
            (("if", fn((8,), local(8)), ("do", (fn((7,), local(7)),)), fn((6,), local(6))),
             "(if (fn (v0) v0) (do (fn (v1) v1)) (fn (v2) v2))"),
            (fn((0,), ("set", local(0), fn((5,), local(5)))), "(fn (v0) (set v0 (fn (v1) v1)))"))

    def test_syntax(self):
        self.shows(
            (stx("x"), "(syntax m@0)"), (stx("7"), "(syntax 7)"), (stx("()"), "(syntax ())"),
            (stx("(f \"s\" #t _ ... '(x))"), "(syntax (m@1 \"s\" #t _ ... (m@7 (m@9))))"),
            (("syntax", ("list", (syn("a"), syn("b", (), "other")), AT)), "(syntax (m@0 other@0))"))

    def test_rules(self):
        self.shows(
            (("rules", syn("(rules ())")), "(rules ())"),
            (("rules", syn("((x) (k j) ((_ a ...) (a ... 1)) ((_) k))")),
             "(rules (m@4 m@5) ((_ m@9 ...) (m@12 ... 1)) ((_) m@18))"))

    def test_patterns(self):
        self.shows(
            (("pattern", syn("((k) (a k ...))")), "(pattern (m@2) (m@4 m@5 ...))"),
            (("pattern", syn("(() _)")), "(pattern () _)"))

    def test_templates(self):
        rows = (("a", (), 2, 0), ("b", (("m", 0, 0),), 0, 1), ("c", (), 1, 1))
        template = ("list", (syn("a"), syn("b"), ("id", "b", AT, (("m", 0, 0),)), syn("..."), syn("c"), syn("...")), AT)
        self.shows(
            (("template", template, rows), "(template ($2 m@0 $0 ... $1 ...))"), (("template", syn("x"), ()), "(template m@0)"),
            (("template", syn("(... (a ...))"), rows), "(template (... ($2 ...)))"))

    def test_deep(self):
        term, shown = number(1), "1"
        for n in range(260):
            term, shown = ("do", (term, number(n))), f"(do {shown} {n})"
        self.shows((term, shown))
        term = local(0)
        for n in range(260):
            term = fn((n,), term)
        self.assertTrue(show_term(term).endswith(" (fn (v259) v259" + ")" * 260))


if __name__ == "__main__":
    unittest.main()
