import sys
import unittest

from helper import AT, call, flag, fn, local, number, outcome, plain_list, prim, seeded, stx, syn, text
from wherewritten.blocks import block_of
from wherewritten.errors import RunError
from wherewritten.evaluating import evaluate
from wherewritten.expanding import NoExpansion
from wherewritten.machine import Machine
from wherewritten.reading import read
from wherewritten.rules import Rules
from wherewritten.syntax import depth, size
from wherewritten.terms import primitives
from wherewritten.values import shown

LIMIT = 10 ** 30
HERE = ("m", 77)


def value(term, fuel=100000):
    """The shown value of a term, or the code and the occurrence of the error."""
    result = outcome(evaluate, term, fuel)
    return result[1][0] if result[0] == "gives" else result[1:]


def numbers(many):
    return plain_list(*[("number", n) for n in range(many)])


def const(plain):
    return ("const", plain)


def quoted(source):
    """The const of a text with one form."""
    def plain(datum):
        return ("list", tuple(map(plain, datum[1]))) if datum[0] == "list" else datum[:2]
    (form,) = read(source)
    return const(plain(form))


def nested(many, inner=plain_list()):
    """A plain list that is many deep."""
    for _ in range(many - (inner[0] == "list")):
        inner = plain_list(inner)
    return inner


class TestTerms(unittest.TestCase):
    def check(self, *pairs):
        for term, shown in pairs:
            with self.subTest(term=str(term)[:200]):
                self.assertEqual(value(term), shown)

    def test_example(self):
        term = ("if", flag(False), text("no"), call("+", number(2), number(3)))
        self.assertEqual(evaluate(term, 10), ("5", 6))

    def test_consts(self):
        self.check((number(0), "0"), (number(-5), "-5"), (flag(True), "#t"), (flag(False), "#f"), (text("a b"), "\"a b\""),
                   (quoted("()"), "()"), (quoted("(1 (#t \"x\" ()))"), "(1 (#t \"x\" ()))"))

    def test_procedures_and_syntax(self):
        pattern, template = ("pattern", syn("(() a)")), ("template", syn("a"), ())
        self.check((prim("+"), "procedure"), (fn((), number(1)), "procedure"), (("rules", syn("(rules ())")), "procedure"),
                   (pattern, "procedure"), (template, "procedure"), (stx("x"), "syntax"), (stx("(a 1)"), "syntax"),
                   (call("list", prim("+"), stx("x"), number(1)), "(procedure syntax 1)"))

    def test_calls(self):
        self.check((call(fn((0, 1), call("-", local(0), local(1))), number(7), number(2)), "5"),
                   (call(fn((), number(4))), "4"), (call(fn((3,), call(local(3), number(1))), prim("list")), "(1)"),
                   (call(call(fn((0,), fn((1,), call("list", local(0), local(1)))), number(1)), number(2)), "(1 2)"))

    def test_if(self):
        for test, shown in [(flag(False), "2"), (flag(True), "1"), (number(0), "1"), (quoted("()"), "1"), (text(""), "1"),
                            (stx("#f"), "1"), (prim("not"), "1")]:
            self.check((("if", test, number(1), number(2)), shown))
        self.check((("if", flag(True), number(1), call("fail", number(0))), "1"),
                   (("if", flag(False), call("fail", number(0)), number(1)), "1"))

    def test_do(self):
        self.check((("do", (number(1),)), "1"), (("do", (number(1), number(2), number(3))), "3"),
                   (("do", (call("fail", number(1), at=HERE), number(2))), ("fail", HERE)))

    def test_rec(self):
        self.check((("rec", (), number(1)), "1"),
                   (("rec", ((0, number(1)), (1, call("+", local(0), number(1)))), call("list", local(0), local(1))), "(1 2)"),
                   (("rec", ((0, local(0, HERE)),), number(1)), ("early", HERE)),
                   (("rec", ((0, local(1, HERE)), (1, number(2))), number(1)), ("early", HERE)),
                   (("rec", ((0, fn((), local(1, HERE))), (1, number(2))), call(local(0))), "2"),
                   (("rec", ((0, fn((), local(1, HERE))), (1, call(local(0)))), number(3)), ("early", HERE)))

    def test_each_rec_makes_new_variables(self):
        # Each call makes a counter of its own.
        counter = fn((0,), ("rec", ((1, local(0)),), fn((), ("set", local(1), call("+", local(1), number(1))))))
        both = ("do", (call(local(3)), call(local(3)), call("list", call(local(3)), call(local(4)))))
        self.check((call(fn((2,), call(fn((3, 4), both), call(local(2), number(0)), call(local(2), number(10)))), counter),
                    "(3 11)"))
        tried = ("rec", ((5, call("list", local(9), ("if", call("=", local(9), number(0)), number(0),
                                                     call(local(8), call("-", local(9), number(1))))),),), local(5))
        self.check((("rec", ((8, fn((9,), tried)),), call(local(8), number(2))), "(2 (1 (0 0)))"))
        early = ("rec", ((5, ("if", local(9), local(5, HERE), call(local(8), flag(True)))),), local(5))
        self.check((("rec", ((8, fn((9,), early)),), call(local(8), flag(False))), ("early", HERE)))

    def test_set(self):
        self.check((call(fn((0,), ("set", local(0), number(2))), number(1)), "2"),
                   (call(fn((0,), ("do", (("set", local(0), number(2)), local(0)))), number(1)), "2"),
                   (call(fn((0,), ("do", (call(fn((), ("set", local(0), number(5)))), local(0)))), number(1)), "5"),
                   (("rec", ((0, ("set", local(0, HERE), number(1))),), local(0)), ("early", HERE)),
                   (("rec", ((0, ("set", local(0, HERE), call("fail", number(1)))),), local(0)), ("fail", AT)),
                   (("rec", ((0, number(1)), (1, ("set", local(0), number(2)))), call("list", local(0), local(1))), "(2 2)"))

    def test_variables_are_shared(self):
        add = fn((), ("set", local(0), call("+", local(0), number(1))))
        term = fn((0,), call(fn((1,), ("do", (call(local(1)), call(local(1)), local(0)))), add))
        self.check((call(term, number(5)), "7"))

    def test_from_left_to_right(self):
        def failing(place):
            return call("fail", number(0), at=("m", place))

        self.check((call(failing(1), failing(2)), ("fail", ("m", 1))), (call(number(1), failing(2)), ("fail", ("m", 2))),
                   (call("+", failing(1), failing(2)), ("fail", ("m", 1))),
                   (call("+", text("a"), failing(2)), ("fail", ("m", 2))),
                   (("if", failing(1), failing(2), failing(3)), ("fail", ("m", 1))),
                   (("do", (failing(1), failing(2))), ("fail", ("m", 1))),
                   (("rec", ((0, failing(1)), (1, failing(2))), failing(3)), ("fail", ("m", 1))))
        bump = ("set", local(0), call("+", call("*", local(0), number(10)), number(1)))
        self.check((call(fn((0,), call("list", local(0), bump, local(0), bump)), number(1)), "(1 11 11 111)"))

    def test_errors_of_calls(self):
        self.check((call(number(1), number(2), at=HERE), ("apply", HERE)), (call(flag(False), at=HERE), ("apply", HERE)),
                   (call(text("+"), at=HERE), ("apply", HERE)), (call(quoted("()"), at=HERE), ("apply", HERE)),
                   (call(stx("x"), at=HERE), ("apply", HERE)), (call(fn((0,), number(1)), at=HERE), ("count", HERE)),
                   (call(fn((), number(1)), number(2), at=HERE), ("count", HERE)),
                   (call(fn((0, 1), number(1)), number(2), at=HERE), ("count", HERE)))

    def test_deep_terms(self):
        term = number(0)
        for _ in range(219):
            term = call("+", term, number(1))
        self.check((term, "219"))
        term = local(0)
        for n in range(218, 0, -1):
            term = fn((n,), term)
        self.check((fn((0,), term), "procedure"))
        for wrap in [lambda term: ("do", (number(1), term)), lambda term: ("if", flag(True), term, number(1)),
                     lambda term: ("if", flag(False), number(1), term), lambda term: ("rec", (), term),
                     lambda term: ("if", term, number(4), number(1))]:
            term = number(4)
            for _ in range(240):
                term = wrap(term)
            self.check((term, "4"))


class TestFuel(unittest.TestCase):
    def just_enough(self, term, many, shown):
        self.assertEqual(evaluate(term, many), (shown, many))
        self.assertEqual(evaluate(term, many + 1), (shown, many))
        self.assertEqual(outcome(evaluate, term, many - 1), ("RunError", "fuel", None))

    def test_each_form(self):
        one = number(1)
        for term, many, shown in [
                (one, 1, "1"), (prim("+"), 1, "procedure"), (fn((), one), 1, "procedure"), (stx("x"), 1, "syntax"),
                (("rules", syn("(rules ())")), 1, "procedure"), (("pattern", syn("(() a)")), 1, "procedure"),
                (("template", syn("x"), ()), 1, "procedure"), (call("list"), 2, "()"), (call("list", one, one), 4, "(1 1)"),
                (("if", one, one, one), 3, "1"), (("if", flag(False), one, call("list")), 4, "()"), (("do", (one,)), 2, "1"),
                (("do", (one, one, one)), 4, "1"), (("rec", (), one), 2, "1"), (("rec", ((0, one), (1, one)), local(0)), 4, "1"),
                (call(fn((0,), ("set", local(0), call("list"))), one), 6, "()"), (call(fn((0,), local(0)), one), 4, "1"),
                (call(fn((), call(fn((), one)))), 5, "1")]:
            with self.subTest(term=term):
                self.just_enough(term, many, shown)

    def test_none(self):
        self.assertEqual(outcome(evaluate, number(1), 0), ("RunError", "fuel", None))

    def test_fuel_against_other_errors(self):
        term = call("fail", number(0), at=HERE)
        self.assertEqual(outcome(evaluate, term, 3), ("RunError", "fail", HERE))
        self.assertEqual(outcome(evaluate, term, 2), ("RunError", "fuel", None))
        term = ("rec", ((0, local(0, HERE)),), number(1))
        self.assertEqual(outcome(evaluate, term, 2), ("RunError", "early", HERE))
        self.assertEqual(outcome(evaluate, term, 1), ("RunError", "fuel", None))
        term = call(number(1), number(2), at=HERE)
        self.assertEqual(outcome(evaluate, term, 3), ("RunError", "apply", HERE))
        self.assertEqual(outcome(evaluate, term, 2), ("RunError", "fuel", None))

    def loop(self, rounds, waits):
        """Counts down by a procedure that calls itself, at the end of its term or with something left to do."""
        again = call(local(0), call("-", local(1), number(1)))
        if waits:
            again = call("+", number(1), again)
        step = fn((1,), ("if", call("<", local(1), number(1)), number(0), again))
        return ("rec", ((0, step),), call(local(0), number(rounds)))

    def test_loops(self):
        self.just_enough(self.loop(0, False), 11, "0")
        self.just_enough(self.loop(20000, False), 11 + 11 * 20000, "0")
        self.just_enough(self.loop(20000, True), 11 + 14 * 20000, "20000")

    def test_endless_loops(self):
        tail = ("rec", ((0, fn((), call(local(0)))),), call(local(0)))
        self.assertEqual(outcome(evaluate, tail, 300000), ("RunError", "fuel", None))
        waiting = ("rec", ((0, fn((), call("+", number(1), call(local(0))))),), call(local(0)))
        self.assertEqual(outcome(evaluate, waiting, 300000), ("RunError", "fuel", None))
        # Procedures that hold one another, many thousand deep.
        chain = ("rec", ((0, fn((1,), call(local(0), fn((2,), call(local(1), local(2)))))),), call(local(0), prim("list")))
        self.assertEqual(outcome(evaluate, chain, 300000), ("RunError", "fuel", None))
        self.assertEqual(outcome(evaluate, self.loop(10 ** 9, True), 1000000), ("RunError", "fuel", None))

    def test_calls_at_the_end_do_not_wait(self):
        wraps = [lambda again: again, lambda again: ("if", flag(True), again, number(1)), lambda again: ("rec", (), again),
                 lambda again: ("if", flag(False), number(1), again), lambda again: ("do", (number(1), again))]
        for wrap in wraps:
            machine = Machine(5000, NoExpansion())
            block = block_of(("rec", ((0, fn((), wrap(call(local(0))))),), call(local(0))))
            self.assertEqual(outcome(machine.run, block), ("RunError", "fuel", None))
            self.assertLessEqual(len(machine.waiting), 2)


class TestPrimitives(unittest.TestCase):
    def check(self, name, *rows):
        for *args, shown in rows:
            with self.subTest(name=name, args=str(args)[:200]):
                told = (shown, HERE) if shown in ("kind", "count", "size", "fail", "expanding") else shown
                self.assertEqual(value(call(name, *args, at=HERE)), told)

    def test_numbers(self):
        big = number(LIMIT - 1)
        small = number(1 - LIMIT)
        self.check("+", (number(2), number(-5), "-3"), (big, number(0), str(LIMIT - 1)), (big, number(1), "size"),
                   (small, number(-1), "size"), (big, small, "0"))
        self.check("-", (number(2), number(5), "-3"), (small, number(1), "size"), (number(-1), number(LIMIT - 1), "size"),
                   (number(-1), number(LIMIT - 2), str(1 - LIMIT)), (big, number(-1), "size"), (big, big, "0"))
        self.check("*", (number(-2), number(5), "-10"), (number(10 ** 15), number(10 ** 15), "size"),
                   (number(10 ** 15), number(-10 ** 15), "size"), (number(10 ** 15), number(10 ** 14), "1" + "0" * 29),
                   (number(0), number(-4), "0"), (big, big, "size"))
        self.check("<", (number(1), number(2), "#t"), (number(2), number(2), "#f"), (number(3), number(-3), "#f"))
        self.check("=", (number(2), number(2), "#t"), (number(1), number(2), "#f"), (number(0), number(0), "#t"))

    def test_not(self):
        self.check("not", (flag(False), "#t"), (flag(True), "#f"), (number(0), "#f"), (quoted("()"), "#f"), (text(""), "#f"),
                   (stx("#f"), "#f"), (prim("not"), "#f"))

    def test_lists(self):
        one = number(1)
        self.check("list", ("()",), (one, text("a"), quoted("(2)"), "(1 \"a\" (2))"))
        self.check("cons", (one, quoted("()"), "(1)"), (quoted("(1)"), quoted("(2 3)"), "((1) 2 3)"), (one, one, "kind"),
                   (quoted("()"), stx("()"), "kind"))
        self.check("first", (quoted("(4)"), "4"), (quoted("((1) 2)"), "(1)"), (quoted("()"), "kind"), (one, "kind"),
                   (stx("(a)"), "kind"))
        self.check("rest", (quoted("(4)"), "()"), (quoted("((1) 2 3)"), "(2 3)"), (quoted("()"), "kind"), (text("a"), "kind"))

    def test_kinds(self):
        values = {"list?": quoted("(1)"), "number?": number(0), "flag?": flag(False), "text?": text("a"), "procedure?": prim("+"),
                  "syntax?": stx("(a)")}
        for name in values:
            for other, term in values.items():
                self.check(name, (term, "#t" if name == other else "#f"))
        self.check("list?", (quoted("()"), "#t"), (stx("()"), "#f"))
        for term in [fn((), number(1)), ("rules", syn("(rules ())")), ("pattern", syn("(() a)")), ("template", syn("a"), ())]:
            self.check("procedure?", (term, "#t"))
            self.check("syntax?", (term, "#f"))
        self.check("empty?", (quoted("()"), "#t"), (quoted("(1)"), "#f"), (number(0), "#f"), (text(""), "#f"), (stx("()"), "#f"),
                   (call("rest", quoted("(1)")), "#t"))
        self.check("identifier?", (stx("x"), "#t"), (stx("(x)"), "#f"), (stx("1"), "#f"), (stx("..."), "#f"), (text("x"), "#f"))
        self.check("syntax?", (stx("1"), "#t"), (stx("x"), "#t"))

    def test_same(self):
        same = ["1", "0", "-1", "#t", "#f", "\"1\"", "\"\"", "\"a\"", "()", "(1)", "(1 2)", "(2 1)", "((1) 2)", "((1 2))", "(#t)",
                "(())", "(() ())"]
        for one in same:
            for other in same:
                self.check("same?", (quoted(one), quoted(other), "#t" if one == other else "#f"))
        plus, x = prim("+"), stx("x")
        self.check("same?", (plus, plus, "#f"), (x, x, "#f"), (call("list", x), call("list", x), "#f"), (x, text("x"), "#f"),
                   (call("list"), quoted("()"), "#t"), (call("cons", number(1), quoted("(2)")), quoted("(1 2)"), "#t"),
                   (call("list", number(1), plus), call("list", number(1), plus), "#f"))
        self.assertEqual(value(call(fn((0,), call("same?", local(0), local(0))), fn((), number(1)))), "#f")

    def test_fail(self):
        self.check("fail", (number(3), "fail"), (text("a"), "kind"), (stx("1"), "kind"))

    def test_parts_and_join(self):
        parts = call("parts", stx("(a 1 (b))"))
        self.check("parts", (stx("(a 1 (b))"), "(syntax syntax syntax)"), (stx("()"), "()"), (stx("a"), "kind"),
                   (stx("1"), "kind"), (quoted("(1)"), "kind"), (stx("..."), "kind"))
        self.check("join", (parts, stx("z"), "syntax"), (quoted("()"), stx("1"), "syntax"), (parts, number(1), "kind"),
                   (quoted("(1)"), stx("z"), "kind"), (stx("(a)"), stx("z"), "kind"),
                   (call("list", stx("a"), parts), stx("a"), "kind"))
        self.assertEqual(value(call("datum", call("first", call("rest", call("parts", call("join", parts, stx("z"))))))), "1")

    def test_datum_and_wrap(self):
        self.check("datum", (stx("-7"), "-7"), (stx("#t"), "#t"), (stx("#f"), "#f"), (stx("\"a b\""), "\"a b\""), (stx("..."), "kind"),
                   (stx("_"), "kind"), (stx("x"), "kind"), (stx("(1)"), "kind"), (number(1), "kind"))
        self.check("wrap", (number(1), stx("x"), "syntax"), (flag(True), stx("(x)"), "syntax"), (text("a"), stx("..."), "syntax"),
                   (quoted("()"), stx("x"), "kind"), (stx("1"), stx("x"), "kind"), (prim("+"), stx("x"), "kind"),
                   (number(1), number(2), "kind"))
        for source in ["-7", "#f", "\"a b\""]:
            self.check("datum", (call("wrap", quoted(source), stx("x")), source))

    def test_identifiers(self):
        a, b = (("m", 0, 0),), (("m", 1, 0),)
        x = stx("x", a)
        self.check("bound=?", (x, stx("x", a), "#t"), (x, stx("x", b), "#f"), (x, stx("y", a), "#f"), (x, stx("1"), "kind"),
                   (stx("(x)"), x, "kind"), (x, text("x"), "kind"))
        self.check("bound=?", (x, call("recolored", x, stx("x", b)), "#t"), (stx("y", a), call("recolored", x, stx("y")), "#t"),
                   (x, call("recolored", x, stx("y")), "#f"))
        self.check("recolored", (x, stx("y"), "syntax"), (x, stx("1"), "kind"), (stx("()"), x, "kind"), (number(1), x, "kind"))

    def test_expanding_ones(self):
        x = stx("x")
        self.check("free=?", (x, "count"), (x, x, x, "count"), (x, stx("1"), "kind"), (number(1), x, "kind"), (x, x, "expanding"))
        self.check("fresh", ("count",), (x, x, "count"), (stx("(x)"), "kind"), (x, "expanding"))
        self.check("local-value", ("count",), (text("x"), "kind"), (stx("..."), "kind"), (x, "expanding"))

    def test_counts(self):
        takes = {1: "not first rest empty? list? number? flag? text? procedure? syntax? identifier? fail parts datum fresh "
                    "local-value", 2: "+ - * < = cons same? join wrap bound=? recolored free=?"}
        told = ["list"]
        for many, names in takes.items():
            for name in names.split():
                told.append(name)
                for wrong in [0, 1, 2, 3]:
                    if wrong != many:
                        self.check(name, (*[prim("list")] * wrong, "count"))
        self.assertEqual(sorted(told), primitives())

    def test_kinds_of_each_argument(self):
        for name in "+ - * < =".split():
            self.check(name, (number(1), text("1"), "kind"), (flag(True), number(1), "kind"), (quoted("()"), quoted("()"), "kind"),
                       (stx("1"), number(1), "kind"))


class TestBounds(unittest.TestCase):
    def check(self, term, shown=None):
        told = value(term)
        if shown is None:
            self.assertEqual(told, ("size", HERE))
        else:
            self.assertEqual(told, shown)

    def many(self, term):
        return len(value(term).replace("(", "").replace(")", "").split())

    def test_parts(self):
        self.assertEqual(self.many(call("cons", number(1), const(numbers(999)), at=HERE)), 1000)
        self.check(call("cons", number(1), const(numbers(1000)), at=HERE))
        self.assertEqual(self.many(call("list", *[number(1)] * 1000, at=HERE)), 1000)
        self.check(call("list", *[number(1)] * 1001, at=HERE))
        self.check(call("list", *[quoted("()")] * 1000, at=HERE), "(" + " ".join(["()"] * 1000) + ")")
        self.check(call("list", *[quoted("()")] * 1001, at=HERE))
        self.assertEqual(self.many(call("parts", stx("(" + "x " * 1000 + ")"), at=HERE)), 1000)
        self.check(call("parts", stx("(" + "x " * 1001 + ")"), at=HERE))

    def test_depth(self):
        self.check(call("list", const(nested(49)), at=HERE), "(" * 50 + ")" * 50)
        self.check(call("list", const(nested(50)), at=HERE))
        self.check(call("list", const(nested(49, ("number", 1))), at=HERE), "(" * 50 + "1" + ")" * 50)
        self.check(call("list", const(nested(50, ("number", 1))), at=HERE))
        self.check(call("cons", number(1), const(nested(50)), at=HERE), "(1 " + "(" * 49 + ")" * 50)
        self.check(call("cons", const(nested(49)), const(nested(50)), at=HERE), "(" * 50 + ")" * 49 + " " + "(" * 49 + ")" * 50)
        self.check(call("cons", const(nested(50)), quoted("()"), at=HERE))

    def test_values_in_all(self):
        part = const(numbers(998))
        self.assertEqual(self.many(call("list", part, part, const(numbers(999)), number(1), at=HERE)), 2996)
        whole = call("list", part, part, const(numbers(999)), number(1), number(2), at=HERE)
        self.check(whole)
        self.check(call("cons", quoted("()"), call("list", part, part, const(numbers(999)), number(1)), at=HERE))
        self.check(call("list", const(plain_list(numbers(999), numbers(999), numbers(998))), at=HERE))

    def test_syntax(self):
        wide = stx("(" + "1 " * 2998 + ")")
        self.check(call("join", call("list", wide), stx("x"), at=HERE), "syntax")
        self.check(call("join", call("list", wide, stx("x")), stx("x"), at=HERE))
        deep = syn("x")
        for _ in range(99):
            deep = ("list", (deep,), AT)
        self.check(call("join", call("list", ("syntax", deep)), stx("x"), at=HERE), "syntax")
        deep = ("list", (deep,), AT)
        self.check(call("join", call("list", ("syntax", deep)), stx("x"), at=HERE))
        # Doubling gets too large soon, and is told at once.
        step = fn((1,), call(local(0), call("join", call("list", local(1), local(1)), local(1), at=HERE)))
        self.check(("rec", ((0, step),), call(local(0), stx("x"))))

    def test_long_lists_are_quick(self):
        # Counts down a list of 1000 parts again and again.
        length = fn((1, 2), ("if", call("empty?", local(1)), local(2), call(local(0), call("rest", local(1)),
                                                                              call("+", local(2), number(1)))))
        again = fn((4,), ("if", call("=", local(4), number(0)), number(7),
                          ("do", (call(local(0), const(numbers(1000)), number(0)), call(local(3), call("-", local(4), number(1)))))))
        term = ("rec", ((0, length), (3, again)), call(local(3), number(60)))
        self.check_fuel(term)

    def check_fuel(self, term):
        self.assertEqual(evaluate(term, 1000000)[0], "7")


class TestRulesProcedures(unittest.TestCase):
    def test_while_nothing_is_expanded(self):
        rules = ("rules", syn("(rules () ((_ a) a))"))
        self.assertEqual(value(call(rules, at=HERE)), ("count", HERE))
        self.assertEqual(value(call(rules, stx("x"), stx("x"), at=HERE)), ("count", HERE))
        self.assertEqual(value(call(rules, number(1), at=HERE)), ("kind", HERE))
        self.assertEqual(value(call(rules, quoted("(1 2)"), at=HERE)), ("kind", HERE))
        self.assertEqual(value(call(rules, stx("(m 1)"), at=HERE)), ("expanding", HERE))
        self.assertEqual(value(call(rules, stx("x"), at=HERE)), ("expanding", HERE))


class TestPatterns(unittest.TestCase):
    def check(self, form, source, shown):
        self.assertEqual(value(call(("pattern", syn(form)), stx(source), at=HERE)), shown)

    def test_what_variables_get(self):
        for form, source, shown in [
                ("(() a)", "(1 2)", "(syntax)"), ("(() _)", "(1 2)", "()"), ("(() (a b))", "(1 2)", "(syntax syntax)"),
                ("(() (a b))", "(1)", "#f"), ("(() (a ...))", "(1 2)", "((syntax syntax))"), ("(() (a ...))", "()", "(())"),
                ("(() ((a b ...) ... c))", "((1 2 3) (4) 5)", "((syntax syntax) ((syntax syntax) ()) syntax)"),
                ("(() (1 \"s\" #t))", "(1 \"s\" #t)", "()"), ("(() (1 \"s\" #t))", "(1 \"s\" #f)", "#f"), ("(() 1)", "1", "()"),
                ("(() ())", "()", "()"), ("(() ())", "x", "#f"), ("(() (((a ...) ...) ...))", "(((1)) () (() (2 3)))",
                                                                "((((syntax)) () (() (syntax syntax))))")]:
            with self.subTest(form=form, source=source):
                self.check(form, source, shown)

    def test_their_order(self):
        term = call("first", call("rest", call(("pattern", syn("(() (c (b ...) a))")), stx("(1 (2 3) 4)"))))
        self.assertEqual(value(call("datum", call("first", call("rest", term)))), "3")

    def test_errors(self):
        pattern = ("pattern", syn("((k) (k a))"))
        self.assertEqual(value(call(pattern, at=HERE)), ("count", HERE))
        self.assertEqual(value(call(pattern, stx("x"), stx("x"), at=HERE)), ("count", HERE))
        self.assertEqual(value(call(pattern, number(1), at=HERE)), ("kind", HERE))
        self.check("((k) (k a))", "(k 1)", ("expanding", HERE))
        self.check("((k) (k a))", "(1 1)", "#f")
        self.check("((k) (k a))", "(k)", "#f")
        self.check("((k) (1 k))", "(2 k)", "#f")
        self.check("((k) (1 k))", "(1 k)", ("expanding", HERE))
        self.check("((k) (1 k ...))", "(1)", "()")

    def test_size(self):
        self.check("(() (a ...))", "(" + "1 " * 1001 + ")", ("size", HERE))
        self.check("(() (_ ...))", "(" + "1 " * 1001 + ")", "()")
        self.assertEqual(len(value(call(("pattern", syn("(() (a ...))")), stx("(" + "1 " * 1000 + ")"), at=HERE)).split()), 1000)
        pattern = ("pattern", syn("(() ((a ...) (b ...) (c ...)))"))
        for last, shown in [(998, "#t"), (999, ("size", HERE))]:
            rows = [("list", (syn("1"),) * many, AT) for many in (999, 999, last)]
            self.assertEqual(value(call("list?", call(pattern, ("syntax", ("list", tuple(rows), AT)), at=HERE))), shown)


class TestTemplates(unittest.TestCase):
    def check(self, source, rows, args, shown):
        """What is shown is the syntax that is made, matched again by a pattern of numbers."""
        made = call(("template", syn(source), rows), *args, at=HERE)
        self.assertEqual(value(made), shown if isinstance(shown, tuple) else "syntax")
        if not isinstance(shown, tuple):
            self.assertEqual(value(call(("pattern", syn(f"(() {shown})")), made)), "()")

    def test_filling(self):
        a, b, c = ("a", (), 0, 0), ("b", (), 1, 1), ("c", (), 2, 2)
        one, two = stx("1"), stx("2")
        self.check("5", (), (), "5")
        self.check("a", (a,), (one,), "1")
        self.check("(a (a 3))", (a,), (one,), "(1 (1 3))")
        self.check("(a b ... 4)", (a, b), (one, call("list", two, one)), "(1 2 1 4)")
        self.check("((a b) ...)", (a, b), (one, call("list", two, one)), "((1 2) (1 1))")
        rows = call("list", call("list", one, two), call("list"), call("list", two))
        self.check("(c ... ... (c ...) ...)", (a, b, c), (one, call("list"), rows), "(1 2 2 (1 2) () (2))")
        self.check("(a z)", (a, ("z", (), 0, 0)), (one,), "(1 1)")
        self.check("a", (("a", (), 2, 0),), (one, two, stx("3")), "3")

    def test_identifiers_are_told_by_their_sets(self):
        template = ("template", syn("a", (("m", 0, 0),)), (("a", (), 0, 0),))
        self.assertEqual(value(call("identifier?", call(template, stx("1")))), "#t")
        template = ("template", syn("a", (("m", 0, 0),)), (("a", (("m", 0, 0),), 0, 0),))
        self.assertEqual(value(call("datum", call(template, stx("1")))), "1")

    def test_errors(self):
        a, b, c = ("a", (), 0, 0), ("b", (), 1, 1), ("c", (), 2, 2)
        one, row = stx("1"), call("list", stx("1"))
        self.check("5", (), (one,), ("count", HERE))
        self.check("5", (a,), (), ("count", HERE))
        self.check("5", (b,), (one,), ("count", HERE))
        self.check("5", (c,), (one, one, call("list"), one), ("count", HERE))
        self.check("5", (a,), (row,), ("kind", HERE))
        self.check("5", (b,), (number(1), row), ("kind", HERE))
        self.check("5", (b,), (one, one), ("kind", HERE))
        self.check("5", (b,), (one, quoted("(1)")), ("kind", HERE))
        self.check("5", (c,), (one, one, row), ("kind", HERE))
        self.check("5", (c,), (one, row, call("list")), ("kind", HERE))
        self.check("5", (c,), (one, one, call("list", row, one)), ("kind", HERE))
        self.check("5", (c,), (one, one, call("list", row, call("list"))), "5")

    def test_lengths(self):
        rows = (("a", (), 0, 1), ("b", (), 1, 1))
        args = (call("list", stx("1"), stx("2")), call("list", stx("1")))
        self.check("(0 (a b) ...)", rows, args, ("lengths", ("m", 5)))
        self.check("(0 a ... b ...)", rows, args, "(0 1 2 1)")

    def test_size(self):
        rows = (("a", (), 0, 0), ("b", (), 1, 1))
        wide = stx("(" + "1 " * 1000 + ")")
        many = call("list", *[stx("1")] * 900)
        self.check("((a a b) ...)", rows, (wide, many), ("size", HERE))
        self.check("(b ...)", rows, (wide, many), "(1 ...)")
        self.check("(a a a)", rows, (stx("(" + "1 " * 999 + ")"), many), ("size", HERE))


class Expansion:
    """What expanding procedures find in these tests: names that begin alike are the same reference."""

    def demand(self, occurrence):
        pass

    def link(self, first, second):
        pass

    def compared(self, first, second, occurrence):
        return None if second[1] == "amb" else first[1][0] == second[1][0]

    def freshened(self, identifier, occurrence):
        return ("id", "fresh", identifier[2], ())

    def looked_up(self, identifier, occurrence):
        raise RunError("macro", occurrence)


def expanding(term):
    """The shown value of a term while something is expanded, or the code and the occurrence of the error."""
    result = outcome(Machine(1000, Expansion()).run, block_of(term))
    return shown(result[1]) if result[0] == "gives" else result[1:]


class TestExpanding(unittest.TestCase):
    def test_rules(self):
        rules = ("rules", syn("(rules (k) ((_ k a) a) ((_ b c ...) (7 (b c) ...)) ((_ (b ...) 1 (c ...)) ((b c) ...)))"))
        self.assertEqual(expanding(call("datum", call(rules, stx("(m kk 5)")))), "5")
        self.assertEqual(expanding(call("datum", call("first", call("parts", call(rules, stx("(m j 5)")))))), "7")
        self.assertEqual(expanding(call(rules, ("syntax", syn("(m)", module="u")), at=HERE)), ("match", ("u", 0)))
        self.assertEqual(expanding(call(rules, ("syntax", syn("(m amb 1)", module="u")), at=HERE)), ("ambiguous", ("u", 2)))
        rules = ("rules", syn("(rules () ((_ (b ...) (c ...)) ((b c) ...)))"))
        self.assertEqual(expanding(call(rules, stx("(m (1) ())"), at=HERE)), ("lengths", ("m", 16)))
        rules = ("rules", syn("(rules () ((_ a) (a a)))"))
        self.assertEqual(expanding(call(rules, ("syntax", syn("(m (" + "1 " * 1800 + "))", module="u")), at=HERE)), ("size", ("u", 0)))
        self.assertEqual(expanding(call(rules, number(1), at=HERE)), ("kind", HERE))

    def test_patterns(self):
        pattern = ("pattern", syn("((k) (k a))"))
        self.assertEqual(expanding(call(pattern, stx("(kk 1)"))), "(syntax)")
        self.assertEqual(expanding(call(pattern, stx("(j 1)"))), "#f")
        self.assertEqual(expanding(call(pattern, stx("(amb 1)"), at=HERE)), ("ambiguous", ("m", 1)))

    def test_primitives(self):
        self.assertEqual(expanding(call("free=?", stx("k"), stx("kk"))), "#t")
        self.assertEqual(expanding(call("free=?", stx("k"), stx("j"))), "#f")
        self.assertEqual(expanding(call("free=?", stx("k"), stx("amb"), at=HERE)), ("ambiguous", HERE))
        self.assertEqual(expanding(call("bound=?", stx("fresh"), call("fresh", stx("x")))), "#t")
        self.assertEqual(expanding(call("local-value", stx("x"), at=HERE)), ("macro", HERE))


    def test_occurrences(self):
        # What a use is and where it was written is told by the errors of rules.
        rules = ("rules", syn("(rules (k) ((k k) 1))"))
        use, z = syn("(amb amb j)", module="u"), ("syntax", syn("z", (), "v"))
        for made, told in [
                (call("join", call("list"), z), ("match", ("v", 0))), (call("wrap", number(1), z), ("match", ("v", 0))),
                (call("join", call("parts", ("syntax", use)), stx("1")), ("match", ("m", 0))),
                (call("first", call("parts", ("syntax", use))), ("match", ("u", 1))),
                (call("join", call("list", z, call("recolored", z, call("first", call("parts", ("syntax", use))))), z),
                 ("ambiguous", ("u", 1)))]:
            self.assertEqual(expanding(call(rules, made)), told)


# Evaluating once more, in the plainest way: by itself.

class PlainRun:
    def __init__(self, fuel):
        self.fuel = fuel
        self.begun = 0

    def value(self, term, held):
        """Values are as plain ones; held is a dict from variables to boxes."""
        if self.begun == self.fuel:
            raise RunError("fuel", None)
        self.begun += 1
        return getattr(self, "value_of_" + term[0])(term, held)

    def value_of_const(self, term, held):
        return term[1]

    def value_of_syntax(self, term, held):
        return term

    def value_of_prim(self, term, held):
        return term

    def value_of_rules(self, term, held):
        return ("rules", Rules(term[1]))

    def value_of_local(self, term, held):
        if not held[term[1]]:
            raise RunError("early", term[2])
        return held[term[1]][0]

    def value_of_fn(self, term, held):
        return ("closure", term, held)

    def value_of_if(self, term, held):
        return self.value(term[3] if self.value(term[1], held) == ("flag", False) else term[2], held)

    def value_of_do(self, term, held):
        return [self.value(part, held) for part in term[1]][-1]

    def value_of_rec(self, term, held):
        held = {**held, **{variable: [] for variable, _ in term[1]}}
        for variable, part in term[1]:
            held[variable].append(self.value(part, held))
        return self.value(term[2], held)

    def value_of_set(self, term, held):
        result = self.value(term[2], held)
        if not held[term[1][1]]:
            raise RunError("early", term[1][2])
        held[term[1][1]][0] = result
        return result

    def value_of_call(self, term, held):
        procedure, *args = [self.value(part, held) for part in (term[1], *term[2])]
        if procedure[0] == "closure":
            _, (_, variables, inner), around = procedure
            if len(variables) != len(args):
                raise RunError("count", term[3])
            return self.value(inner, {**around, **{variable: [arg] for variable, arg in zip(variables, args)}})
        if procedure[0] == "rules":
            if len(args) != 1:
                raise RunError("count", term[3])
            raise RunError("expanding" if args[0][0] == "syntax" else "kind", term[3])
        if procedure[0] != "prim":
            raise RunError("apply", term[3])
        return self.primitive(procedure[1], args, term[3])

    def primitive(self, name, args, at):
        kinds = {"+": "nn", "-": "nn", "*": "nn", "<": "nn", "=": "nn", "not": "v", "cons": "vl", "first": "f", "rest": "f",
                 "same?": "vv", "fail": "n", "parts": "p", "join": "js", "datum": "d", "wrap": "ws", "bound=?": "ii",
                 "recolored": "ii", "free=?": "ii", "fresh": "i", "local-value": "i"}.get(name, "v")
        if name != "list":
            if len(kinds) != len(args):
                raise RunError("count", at)
            if not all(self.fits(arg, kind) for arg, kind in zip(args, kinds)):
                raise RunError("kind", at)
        if name in ("free=?", "fresh", "local-value"):
            raise RunError("expanding", at)
        if name == "fail":
            raise RunError("fail", at)
        result = self.result(name, args)
        if not self.is_small(result):
            raise RunError("size", at)
        return result

    def fits(self, arg, kind):
        syntax = arg[1] if arg[0] == "syntax" else ("none", "none")
        return {"v": True, "n": arg[0] == "number", "l": arg[0] == "list", "f": arg[0] == "list" and len(arg[1]) > 0,
                "s": arg[0] == "syntax", "p": syntax[0] == "list", "i": syntax[0] == "id",
                "j": arg[0] == "list" and all(part[0] == "syntax" for part in arg[1]),
                "d": syntax[0] == "atom" and syntax[1] in ("number", "flag", "text"),
                "w": arg[0] in ("number", "flag", "text")}[kind]

    def result(self, name, args):
        first, second = (*args, None, None)[:2]
        table = {
            "+": lambda: ("number", first[1] + second[1]), "-": lambda: ("number", first[1] - second[1]),
            "*": lambda: ("number", first[1] * second[1]), "<": lambda: ("flag", first[1] < second[1]),
            "=": lambda: ("flag", first[1] == second[1]), "not": lambda: ("flag", first == ("flag", False)),
            "list": lambda: ("list", tuple(args)), "cons": lambda: ("list", (first, *second[1])),
            "first": lambda: first[1][0], "rest": lambda: ("list", first[1][1:]),
            "empty?": lambda: ("flag", first == ("list", ())), "same?": lambda: ("flag", self.same(first, second)),
            "procedure?": lambda: ("flag", first[0] in ("closure", "rules", "prim")),
            "identifier?": lambda: ("flag", first[0] == "syntax" and first[1][0] == "id"),
            "parts": lambda: ("list", tuple(("syntax", part) for part in first[1][1])),
            "join": lambda: ("syntax", ("list", tuple(part[1] for part in first[1]), self.place(second))),
            "datum": lambda: first[1][1:3], "wrap": lambda: ("syntax", ("atom", *first, self.place(second))),
            "bound=?": lambda: ("flag", (first[1][1], first[1][3]) == (second[1][1], second[1][3])),
            "recolored": lambda: ("syntax", (*second[1][:3], first[1][3]))}
        return table.get(name, lambda: ("flag", first[0] + "?" == name))()

    def place(self, value):
        return value[1][3] if value[1][0] == "atom" else value[1][2]

    def same(self, one, other):
        if one[0] != other[0]:
            return False
        if one[0] == "list":
            return len(one[1]) == len(other[1]) and all(self.same(*pair) for pair in zip(one[1], other[1]))
        return one[0] in ("number", "flag", "text") and one[1] == other[1]

    def is_small(self, value):
        if value[0] == "number":
            return abs(value[1]) < LIMIT
        if value[0] == "syntax":
            return size(value[1]) <= 3000 and depth(value[1]) <= 100
        return value[0] != "list" or (len(value[1]) <= 1000 and self.many(value) <= 3000 and self.deep(value) <= 50)

    def many(self, value):
        return 1 + (sum(map(self.many, value[1])) if value[0] == "list" else 0)

    def deep(self, value):
        return 1 + max(map(self.deep, value[1]), default=0) if value[0] == "list" else 0


def shown_plainly(value):
    if value[0] == "list":
        return "(" + " ".join(map(shown_plainly, value[1])) + ")"
    if value[0] == "number":
        return str(value[1])
    if value[0] == "flag":
        return "#t" if value[1] else "#f"
    return f"\"{value[1]}\"" if value[0] == "text" else "syntax" if value[0] == "syntax" else "procedure"


def evaluate_plainly(term, fuel):
    run = PlainRun(fuel)
    return (shown_plainly(run.value(term, {})), run.begun)


class RandomTerms:
    def __init__(self, rng):
        self.rng = rng
        self.next_variable = 0
        self.next_place = 0

    def place(self):
        self.next_place += 1
        return ("m", self.next_place)

    def variables(self, many):
        self.next_variable += many
        return tuple(range(self.next_variable - many, self.next_variable))

    def leaf(self, known):
        rng = self.rng
        pick = rng.random()
        if known and pick < 0.5:
            return ("local", rng.choice(known), self.place())
        if pick < 0.6:
            return prim(rng.choice(primitives()))
        if pick < 0.7:
            return stx(rng.choice(["x", "y", "1", "(x 2)", "()", "...", "\"s\"", "(x (y))"]))
        if pick < 0.72:
            return ("rules", syn("(rules () ((_ a) a))"))
        return quoted(rng.choice(["0", "1", "-1", str(LIMIT - 1), "#t", "#f", "\"s\"", "()", "(1 2)", "((1) #f \"s\")"]))

    def term(self, deep, known):
        rng = self.rng
        kind = rng.choice(["leaf", "fn", "call", "call", "prim", "prim", "prim", "if", "do", "rec", "set", "let"])
        if deep == 0 or kind == "leaf" or (kind == "set" and not known):
            return self.leaf(known)
        if kind == "fn":
            new = self.variables(rng.randrange(3))
            return fn(new, self.term(deep - 1, [*known, *new]))
        if kind == "let":
            new = self.variables(rng.randrange(3))
            args = [self.term(deep - 1, known) for _ in new]
            return call(fn(new, self.term(deep - 1, [*known, *new])), *args, at=self.place())
        if kind == "rec":
            new = self.variables(rng.randrange(3))
            pairs = tuple((variable, self.term(deep - 1, [*known, *new])) for variable in new)
            return ("rec", pairs, self.term(deep - 1, [*known, *new]))
        if kind == "set":
            return ("set", ("local", rng.choice(known), self.place()), self.term(deep - 1, known))
        if kind == "if":
            return ("if", *[self.term(deep - 1, known) for _ in range(3)])
        if kind == "do":
            return ("do", tuple(self.term(deep - 1, known) for _ in range(rng.randrange(1, 4))))
        if kind == "prim":
            name = rng.choice(primitives() if rng.random() < 0.6 else ["+", "-", "*"])
            args = [self.term(deep - 1, known) for _ in range(rng.choice([1, 2]))]
            if rng.random() < 0.3:
                args = [quoted(rng.choice(["2", str(LIMIT - 1), str(1 - LIMIT)])) for _ in range(2)]
            return call(name, *args, at=self.place())
        return call(self.term(deep - 1, known), *[self.term(deep - 1, known) for _ in range(rng.randrange(3))], at=self.place())


class TestAgainstThePlainWay(unittest.TestCase):
    def test_random_terms(self):
        rng = seeded(8)
        limit = sys.getrecursionlimit()
        sys.setrecursionlimit(20000)
        told = {}
        for _ in range(8000):
            terms = RandomTerms(rng)
            term = terms.term(rng.randrange(2, 7), [])
            fuel = rng.choice([3, 10, 400])
            mine = outcome(evaluate, term, fuel)
            self.assertEqual(mine, outcome(evaluate_plainly, term, fuel), (term, fuel))
            told[mine[1] if mine[0] != "gives" else "gives"] = True
        sys.setrecursionlimit(limit)
        self.assertLessEqual({"gives", "fuel", "early", "kind", "count", "apply", "expanding", "size"}, set(told))


if __name__ == "__main__":
    unittest.main()
