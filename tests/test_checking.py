"""Checking artifacts (point 85)."""

import unittest

from helper import AT, artifacts_of, call, flag, fn, local, number, plain_list, prim, seeded, stx, syn, text
from randommodules import RandomModules
from samples import ORDER, SAMPLES
from test_evaluating import RandomTerms, nested, numbers
from wherewritten.artifacts import read_artifact, write_artifact
from wherewritten.calling import compile_all
from wherewritten.checking import fault, is_syntax_value, is_term
from wherewritten.errors import RulesError, WhereError
from wherewritten.library import library
from wherewritten.patterns import PatternMaker
from wherewritten.reading import is_name
from wherewritten.rules import Rules
from wherewritten.syntax import is_set
from wherewritten.templates import Template
from wherewritten.terms import primitives

LIMIT = 10 ** 30
RULES = syn("(rules (k) ((_ a ...) (a ...)))")
PATTERN = syn("((k) (a k b ...))")


# A second way to tell what terms and syntax are.

def is_number(value, least=None, most=None):
    return type(value) is int and (least is None or value >= least) and (most is None or value <= most)


def is_text(value):
    return type(value) is str and len(value) <= 100 and all(32 <= ord(sign) < 127 and sign != '"' for sign in value)


def is_place(value):
    return type(value) is tuple and len(value) == 2 and type(value[0]) is str and is_name(value[0]) and is_number(value[1], 0)


def measure(plain):
    """The pair of how many values there are and how deep lists are."""
    if plain[0] != "list":
        return 1, 0
    parts = [measure(part) for part in plain[1]]
    return 1 + sum(many for many, _ in parts), 1 + max([deep for _, deep in parts], default=0)


def is_atom(kind, value):
    return {"number": is_number(value, 1 - LIMIT, LIMIT - 1), "flag": type(value) is bool, "text": is_text(value)}.get(kind, False)


def is_plain(value):
    def has_form(part):
        if type(part) is not tuple or len(part) != 2 or type(part[0]) is not str:
            return False
        if part[0] == "list":
            return type(part[1]) is tuple and len(part[1]) <= 1000 and all(has_form(one) for one in part[1])
        return is_atom(*part)
    if not has_form(value):
        return False
    many, deep = measure(value)
    return deep <= 50 and (many <= 3000 or value[0] != "list")


def syntax_depth(value):
    """How deep syntax is, or None for what is none."""
    if type(value) is not tuple or not value or type(value[0]) is not str:
        return None
    if value[0] == "id":
        return 0 if len(value) == 4 and type(value[1]) is str and is_name(value[1]) and is_place(value[2]) and is_set(value[3]) else None
    if value[0] == "atom":
        if len(value) != 4 or type(value[1]) is not str or not is_place(value[3]):
            return None
        return 0 if (value[2] is None if value[1] in ("dots", "wild") else is_atom(value[1], value[2])) else None
    if value[0] != "list" or len(value) != 3 or type(value[1]) is not tuple or not is_place(value[2]):
        return None
    depths = [syntax_depth(part) for part in value[1]]
    return None if None in depths else 1 + max(depths, default=0)


def is_syntax_plainly(value):
    deep = syntax_depth(value)
    return deep is not None and deep <= 100


def compiles(action, *args):
    try:
        action(*args)
    except RulesError:
        return False
    return True


def is_template(syntax, rows):
    if not is_syntax_plainly(syntax) or type(rows) is not tuple:
        return False
    for row in rows:
        if type(row) is not tuple or len(row) != 4 or type(row[0]) is not str or not is_name(row[0]) or not is_set(row[1]):
            return False
        if not is_number(row[2], 0) or not is_number(row[3], 0, 4):
            return False
    keys, depths = {row[:2] for row in rows}, {row[2:] for row in rows}
    if len(keys) != len(rows) or len(depths) != len({row[2] for row in rows}):
        return False
    return compiles(Template, syntax, {row[:2]: row[2:] for row in rows})


def term_depth(value, usable, bound):
    """How deep a term is, or None for what is none; bound gets the variables that are bound in it."""
    if type(value) is not tuple or not value or type(value[0]) is not str:
        return None
    kind, *parts = value
    shapes = {"const": 1, "syntax": 1, "rules": 1, "pattern": 1, "template": 2, "local": 2, "top": 4, "prim": 1, "fn": 2, "call": 3, "if": 3,
              "do": 1, "rec": 2, "set": 2}
    if shapes.get(kind) != len(parts):
        return None
    if kind in ("const", "syntax", "rules", "pattern", "template", "local", "top", "prim"):
        if kind == "pattern":
            is_right = (is_syntax_plainly(parts[0]) and parts[0][0] == "list" and len(parts[0][1]) == 2 and parts[0][1][0][0] == "list"
                        and all(one[0] == "id" for one in parts[0][1][0][1])
                        and compiles(PatternMaker(parts[0][1][0][1]).made, parts[0][1][1], 0))
        else:
            is_right = {
                "const": lambda: is_plain(parts[0]), "syntax": lambda: is_syntax_plainly(parts[0]),
                "rules": lambda: is_syntax_plainly(parts[0]) and compiles(Rules, parts[0]), "template": lambda: is_template(*parts),
                "local": lambda: is_number(parts[0], 0) and parts[0] in usable and is_place(parts[1]),
                "top": lambda: (type(parts[0]) is str and is_name(parts[0]) and is_number(parts[1], 0, 3) and is_number(parts[2], 0)
                                and is_place(parts[3])),
                "prim": lambda: type(parts[0]) is str and parts[0] in primitives()}[kind]()
        return 1 if is_right else None
    inner, new = [], []
    if kind == "fn":
        new, inner = parts[0], [parts[1]]
    elif kind == "call":
        if type(parts[1]) is not tuple or not is_place(parts[2]):
            return None
        inner = [parts[0], *parts[1]]
    elif kind == "do":
        inner = parts[0]
        if type(inner) is not tuple or not inner:
            return None
    elif kind == "rec":
        if type(parts[0]) is not tuple or any(type(pair) is not tuple or len(pair) != 2 for pair in parts[0]):
            return None
        new, inner = tuple(pair[0] for pair in parts[0]), [*[pair[1] for pair in parts[0]], parts[1]]
    else:
        inner = parts
        if kind == "set" and (type(parts[0]) is not tuple or not parts[0] or parts[0][0] not in ("local", "top")):
            return None
    if kind in ("fn", "rec"):
        if type(new) is not tuple:
            return None
        for one in new:
            if not is_number(one, 0) or one in bound:
                return None
            bound.add(one)
    depths = [term_depth(part, usable | set(new), bound) for part in inner]
    return None if None in depths else 1 + max(depths)


def is_term_plainly(value):
    deep = term_depth(value, frozenset(), set())
    return deep is not None and deep <= 220


def spots(value, way=()):
    """The ways to all tuples and parts of tuples in a value."""
    yield way
    if type(value) is tuple:
        for at, part in enumerate(value):
            yield from spots(part, (*way, at))


def part_at(value, way):
    for at in way:
        value = value[at]
    return value


def with_part(value, way, change):
    """A value in which the parts of a tuple are others: change gets the list of them."""
    if len(way) == 0:
        parts = list(value)
        change(parts)
        return tuple(parts)
    parts = list(value)
    parts[way[0]] = with_part(parts[way[0]], way[1:], change)
    return tuple(parts)


VALUES = [0, 1, -1, 7, LIMIT, 1 - LIMIT, -LIMIT, True, False, None, "", "x", "X", "a b", "list", "number", "flag", "text", "id", "atom", "local",
          "core", (), ("m", 0), ("m", -1), ("M", 0), ("x",), (0,), (0, 1), ("number", 1), ("const", ("number", 1)), ("flag", True), ("flag", 1),
          "y" * 101, "x\"", "x\n", (("m", 0, 0),), (("m", 1, 0), ("m", 0, 0)), ("atom", "dots", None, ("m", 0)), ("local", 0, ("m", 0)),
          ("top", "m", 0, 0, ("m", 0)), ("list", ()), ("list", (), ("m", 0)), syn("a")]


def mutated(rng, value):
    """A value with one part left out, twice, exchanged or of another kind."""
    ways = [way for way in spots(value) if type(part_at(value, way)) is tuple and part_at(value, way)]
    way = rng.choice(ways)

    def change(parts):
        at, other, pick = rng.randrange(len(parts)), rng.randrange(len(parts)), rng.random()
        if pick < 0.2:
            del parts[at]
        elif pick < 0.35:
            parts.insert(other, parts[at])
        elif pick < 0.55:
            parts[at], parts[other] = parts[other], parts[at]
        else:
            parts[at] = rng.choice(VALUES)
    return with_part(value, way, change)


class TestTerms(unittest.TestCase):
    def check(self, truth, *terms):
        for term in terms:
            self.assertIs(is_term(term), truth, str(term)[:300])
            self.assertIs(is_term_plainly(term), truth, str(term)[:300])

    def test_leaves(self):
        self.check(True, number(1), flag(True), text("a b"), prim("list"), ("top", "m", 3, 9, AT), stx("(a 1 #t \"b\" ... _ ())"), ("rules", RULES),
                   ("pattern", PATTERN), ("template", syn("(a b ...)"), (("a", (), 0, 0), ("b", (), 7, 1))), ("template", syn("a"), ()),
                   ("pattern", syn("(() _)")), ("pattern", syn("(() a)")), ("pattern", syn("(() 1)")))
        self.check(False, (), ("const",), ("const", 1), ("const", ("number", 1), 1), ("nope", 1), (1, 2), (None,), ("prim", "nope"), ("prim", 1),
                   ("prim", ("list",)), ("top", "m", 4, 0, AT), ("top", "m", -1, 0, AT), ("top", "m", 0, -1, AT), ("top", "M", 0, 0, AT),
                   ("top", "m", 0, 0, None), ("top", "m", True, 0, AT), ("top", "m", 0, 0), ("local", 0, AT), ("syntax", 1), ("syntax", ()),
                   (("const", ("number", 1)),), ("rules", syn("(rules)")), ("rules", syn("(rules () (a 1))")), ("rules", syn("a")), ("rules", None),
                   ("pattern", syn("(())")), ("pattern", syn("(k a)")), ("pattern", syn("((1) a)")), ("pattern", syn("(() ...)")),
                   ("pattern", syn("(() (... a))")), ("pattern", syn("(() (a a))")), ("pattern", syn("(() a b)")), ("pattern", 5),
                   ("template", syn("(a ...)"), ()), ("template", syn("a"), (("a", (), 0, 1),)), ("template", syn("a"), (("a", (), 0, 5),)),
                   ("template", syn("x"), (("a", (), 0, 0), ("a", (), 1, 0))), ("template", syn("x"), (("a", (), 0, 0), ("b", (), 0, 1))),
                   ("template", syn("x"), None), ("template", syn("x"), (("a", (), -1, 0),)), ("template", syn("x")))
        # The greatest k of a template may be great.
        self.check(True, ("template", syn("a"), (("a", (), 10 ** 15, 0),)))

    def test_plain_values(self):
        self.check(True, number(LIMIT - 1), number(1 - LIMIT), number(0), text(""), text("x" * 100), text("~ ;'"), ("const", plain_list()),
                   ("const", numbers(1000)), ("const", nested(50)), ("const", plain_list(numbers(999), numbers(999), numbers(998))),
                   ("const", plain_list(*[numbers(999)] * 2, numbers(900))))
        self.check(False, number(LIMIT), number(-LIMIT), number(True), number("1"), number(None), ("const", ("flag", 1)), ("const", ("flag", None)),
                   text("x" * 101), text("\""), text("a\nb"), text("\x7f"), text("\u00e4"), text(1), ("const", numbers(1001)), ("const", nested(51)),
                   ("const", plain_list(numbers(999), numbers(999), numbers(999))), ("const", ("dots", None)), ("const", ("name", "a")),
                   ("const", ("list", [])), ("const", ("list", None)), ("const", ("list", (1,))), ("const", plain_list(("number", True))),
                   ("const", None), ("const", ()), ("const", (("number", 1),)), ("const", ("number",)), ("const", ("number", 1, 2)))

    def test_terms_with_terms(self):
        x, y = local(0), local(1)
        self.check(True, fn((), number(1)), fn((0,), x), fn((0, 1), call("list", x, y)), call(prim("list")), ("if", number(1), number(2), number(3)),
                   ("do", (number(1),)), ("rec", (), number(1)), ("rec", ((0, fn((), x)), (1, x)), call("list", x, y)),
                   fn((0,), ("set", x, number(1))), ("set", ("top", "m", 0, 0, AT), number(1)), fn((5,), local(5)))
        self.check(False, fn((0, 0), x), fn(("0",), number(1)), fn((-1,), number(1)), fn((True,), number(1)), ("fn", 0, number(1)), ("fn", None, number(1)),
                   ("fn", (), number(1), number(1)), fn((0,), y), call(fn((0,), x), x), call("list", fn((0,), x), fn((0,), x)),
                   fn((0,), fn((0,), x)), ("rec", ((0, number(1)), (0, number(2))), x), fn((0,), ("rec", ((0, number(1)),), x)),
                   call("list", ("rec", ((0, number(1)),), x), x), ("rec", ((0, number(1), 1),), x), ("rec", (0, 1), number(1)), ("rec", None, number(1)),
                   ("rec", ((0,),), x), ("do", ()), ("do", number(1)), ("do", None), ("if", number(1), number(2)), ("if", number(1), number(2), 3),
                   ("call", prim("list"), number(1), AT), ("call", prim("list"), (), None), ("call", prim("list"), (1,), AT), ("call", prim("list"), ()),
                   ("set", x, number(1)), fn((0,), ("set", number(1), x)), fn((0,), ("set", fn((), x), x)), fn((0,), ("set", x)), fn((0,), ("set", None, x)),
                   fn((0,), ("set", (), x)), fn((0,), ("set", ("local", 0, None), x)), fn((0,), ("local", 0, ("m", -1))))

    def test_depth(self):
        def deep(many):
            term = number(1)
            for _ in range(many - 1):
                term = ("if", term, number(1), number(1))
            return term
        self.check(True, deep(1), deep(2), deep(220))
        self.check(False, deep(221), deep(290))
        self.check(True, fn((0,), ("do", (deep(218),))), fn((0,), ("set", local(0), deep(218))))
        self.check(False, fn((0,), ("do", (deep(219),))), fn((0,), ("set", local(0), deep(219))))

    def test_syntax(self):
        def listed(many):
            syntax = ("list", (), AT)
            for _ in range(many - 1):
                syntax = ("list", (syntax,), AT)
            return syntax
        scopes = (("a", 0, 0), ("m", 3, 1))
        good = [syn("a"), syn("(a (1 #t) \"x\" ... _)"), ("id", "a", AT, scopes), ("atom", "number", LIMIT - 1, AT), ("atom", "text", "x" * 100, AT),
                ("list", (), AT), listed(100), ("list", (syn("a"),) * 4000, AT)]
        bad = [(), ("id",), ("id", "a", AT), ("id", "A", AT, ()), ("id", 1, AT, ()), ("id", "a", None, ()), ("id", "a", AT, None), ("id", "a", AT, (5,)),
               ("id", "a", AT, scopes[::-1]), ("id", "a", AT, scopes * 2), ("id", "a", AT, (), 1), ("atom", "number", LIMIT, AT),
               ("atom", "number", True, AT), ("atom", "flag", 1, AT), ("atom", "text", "x" * 101, AT), ("atom", "dots", 1, AT), ("atom", "wild", "", AT),
               ("atom", "name", "a", AT), ("atom", None, None, AT), ("atom", "dots", None, None), ("atom", "dots", None), ("list", (), None), ("list", None, AT),
               ("list", (1,), AT), ("list", (syn("a"), ()), AT), ("list", ()), listed(101), ("name", "a", 0), (1, 2, 3), ("atom", ("list",), None, AT)]
        for value in good:
            self.assertIs(is_syntax_value(value), True)
            self.assertTrue(is_syntax_plainly(value))
            self.check(True, ("syntax", value))
        for value in bad:
            self.assertIs(is_syntax_value(value), False, value)
            self.assertFalse(is_syntax_plainly(value))
            self.check(False, ("syntax", value))

    def test_changed_terms(self):
        rng = seeded(50)
        told = {True: 0, False: 0}
        for _ in range(6000):
            term = RandomTerms(rng).term(rng.randrange(1, 5), [])
            if rng.random() < 0.2:
                term = call("list", term, rng.choice([("rules", RULES), ("pattern", PATTERN), ("template", syn("(a b ...)"),
                                                                                              (("a", (), 0, 0), ("b", (), 1, 1)))]))
            self.assertTrue(is_term(term))
            for _ in range(3):
                value = mutated(rng, term)
                if not value:
                    continue
                self.assertIs(is_term(value), is_term_plainly(value), value)
                told[is_term(value)] += 1
        self.assertGreater(min(told.values()), 2000)

    def test_changed_syntax(self):
        rng = seeded(51)
        for _ in range(3000):
            value = mutated(rng, syn(rng.choice(["(a (b 1) \"s\" #t ...)", "((a) _)", "a", "1"]), rng.choice([(), (("m", 0, 0), ("n", 1, 0))])))
            self.assertIs(is_syntax_value(value), is_syntax_plainly(value), value)


class TestFault(unittest.TestCase):
    TEXTS = {
        "a": "(def x 1) (def f (fn () x)) (defmac m (rules () ((_ e) (list e x)))) (offer x f m)",
        "m": "(use a) (def y (m x)) (def z (let ((q 1)) #'(q y))) (up (use a) (def w 5) (def v (let ((p 1)) #'p))) (defmac k (fn (s) #'y)) (offer y k)",
    }

    def setUp(self):
        self.artifacts = artifacts_of(self.TEXTS)
        self.others = {"a": self.artifacts["a"]}
        self.module = self.artifacts["m"]

    def changed(self, at, change):
        """The artifact with other parts in one of its rows, as a function of a list changes them."""
        return with_part(self.module, (at,), change)

    def check(self, code, *values):
        for value in values:
            self.assertEqual(fault(value, self.others), code, str(value)[:500])

    def test_in_order(self):
        self.check(None, self.module, ("module", "m", (), (), (), ()))
        self.assertIsNone(fault(self.artifacts["a"], {}))
        self.assertIsNone(fault(read_artifact(write_artifact(self.module)), self.others))

    def test_form(self):
        word, name, uses, offers, bindings, items = self.module
        self.check("form", (), (word,), self.module[:5], (*self.module, ()), ("nope", *self.module[1:]), (1, *self.module[1:]), (word, "core", *self.module[2:]),
                   (word, "M", *self.module[2:]), (word, 1, *self.module[2:]), (word, name, None, *self.module[3:]), (word, name, uses, None, bindings, items),
                   (word, name, uses, offers, None, items), (word, name, uses, offers, bindings, None), (word, name, uses, offers, bindings, "x"))
        for row in (("a",), ("a", 4), ("a", -1), ("a", True), ("A", 0), (1, 0), ("a", 0, 0), "a", None, ("a", None)):
            self.check("form", self.changed(2, lambda rows: rows.append(row)))
        giver, target = ("m", 0), ("top", "m", 0, 0)
        for row in ((), ("n", 0, target), ("n", 0, target, giver, 1), ("N", 0, target, giver), (1, 0, target, giver), ("n", 4, target, giver), ("n", -1, target, giver),
                    ("n", True, target, giver), ("n", 0, target, None), ("n", 0, target, ("m", -1)), ("n", 0, target, ("m", True)), ("n", 0, target, ("M", 0)), 5):
            self.check("form", self.changed(3, lambda rows: rows.append(row)))
        for row in ((), (0, "n", (), target), (4, "n", (), target, giver), (-1, "n", (), target, giver), (0, "N", (), target, giver), (0, "n", None, target, giver),
                    (0, "n", (("m", 0, 0),) * 2, target, giver), (0, "n", (("m", 0),), target, giver), (0, "n", (), target, None), (False, "n", (), target, giver),
                    (0, "n", (("m", -1, 0),), target, giver), (0, 5, (), target, giver), None):
            self.check("form", self.changed(4, lambda rows: rows.append(row)))
        for wrong in ((), ("word", "if"), ("prim", "list"), ("top", "m", 0), ("top", "m", 0, 0, 0), ("top", "M", 0, 0), ("top", "m", -1, 0), ("top", "m", 0, -1),
                      ("top", "m", 0, True), ("local", "m"), ("local", "m", -1), ("local", "m", None), ("own", "M", 0), ("own", "m", 0, 0), ("nope", "m", 0), None,
                      ("macro", "m", 0), ("macro", None, 0, 0), (1, "m", 0), ("top", "m", "0", 0)):
            self.check("form", self.changed(3, lambda rows: rows.append(("n", 0, wrong, giver))))
            self.check("form", self.changed(4, lambda rows: rows.append((0, "n", (), wrong, giver))))
        one = number(1)
        for item in ((), ("def", 0, 0), ("def", 4, 0, one), ("def", -1, 0, one), ("def", 0, -1, one), ("def", True, 0, one), ("def", 0, True, one), ("expr", 0, 1, one),
                     ("expr", 4, 0, one), ("expr", 0, False, one), ("mac", 3, 0, one), ("mac", 0, -1, one), ("nope", 0, 0, one), (1, 0, 0, one), None, ("def", 0, None, one),
                     ("def", 0, 0, one, one)):
            self.check("form", self.changed(5, lambda rows: rows.append(item)))

    def test_terms(self):
        for term in (5, None, (), local(0), call("nope"), number(True), ("const", ("number", LIMIT)), ("rules", syn("a")), ("if", number(1), number(1))):
            for item in (("expr", 0, 0, term), ("expr", 2, 0, term), ("mac", 0, 1, term), ("def", 0, 9, term)):
                self.check("terms", self.changed(5, lambda rows: rows.append(item)))
        # Variables of other items may have the same numbers.
        self.check(None, self.changed(5, lambda rows: rows.extend([("expr", 0, 0, fn((0,), local(0)))] * 2)))

    def test_uses(self):
        self.check("uses", self.changed(2, lambda rows: rows.append(("b", 0))), self.changed(2, lambda rows: rows.append(rows[0])))
        self.check(None, self.changed(2, lambda rows: rows.append(("a", 2))), self.changed(2, lambda rows: rows.reverse()))
        self.assertEqual(fault(self.module, {}), "uses")

    def test_scopes(self):
        def moved(scopes, by):
            return tuple(sorted((name, number + by if name == "m" else number, shift) for name, number, shift in scopes))
        bindings = tuple((phase, name, moved(scopes, 1), target, giver) for phase, name, scopes, target, giver in self.module[4])
        self.check("scopes", (*self.module[:4], bindings, self.module[5]))
        own = [scope for row in self.module[4] for scope in row[2] if scope[0] == "m"]
        self.assertIn(("m", 0, 0), own)
        most = max(number for _, number, _ in own)
        giver, target = ("m", 0), ("top", "m", 0, 0)
        # All bindings count, also one that is kept for no reason: this is a later fault.
        self.check("scopes", self.changed(4, lambda rows: rows.append((0, "n", (("m", most + 2, 0),), target, giver))),
                   self.changed(4, lambda rows: rows.append((0, "n", (("m", 0, 1),), target, giver))),
                   self.changed(4, lambda rows: rows.append((0, "n", (("m", most + 20, 0),), ("local", "m", 0), giver))),
                   self.changed(5, lambda rows: rows.append(("expr", 0, 0, stx("x", (("m", 90, 0),))))),
                   self.changed(5, lambda rows: rows.append(("expr", 0, 0, stx("x", (("m", 0, 1),))))))
        self.check(None, self.changed(5, lambda rows: rows.append(("expr", 0, 0, stx("x", (("k", 90, 7),))))))
        one, two, three = ("m", 0, 0), ("m", 1, 0), ("m", 2, 0)
        items = (("expr", 0, 0, stx("x", (three,))), ("expr", 1, 0, stx("(x y)", (two,))))
        rows = ((0, "a", (two,), ("own", "m", 0), giver), (0, "b", (three,), ("own", "m", 0), giver))
        # Those of a binding that an item above level 0 keeps come ahead of these items, and of other bindings.
        self.check("scopes", ("module", "m", (), (), rows, items))
        swap = {one: two, two: one, three: three}
        other = (("expr", 0, 0, stx("x", (three,))), ("expr", 1, 0, stx("(x y)", (swap[two],))))
        self.check("scopes", ("module", "m", (), (), ((0, "a", (one,), ("own", "m", 0), giver), (0, "b", (three,), ("own", "m", 0), giver)), other))
        other = (("expr", 0, 0, stx("x", (two,))), ("expr", 1, 0, stx("(x y)", (one,))))
        self.check(None, ("module", "m", (), (), ((0, "b", (two,), ("own", "m", 0), giver), (0, "a", (one,), ("own", "m", 0), giver)), other))
        self.check("scopes", ("module", "m", (), (), ((0, "b", (one,), ("own", "m", 0), giver), (0, "a", (two,), ("own", "m", 0), giver)),
                              (("expr", 0, 0, stx("x", (one,))), ("expr", 1, 0, stx("(x y)", (two,))))))
        self.check(None, ("module", "m", (), (), ((0, "b", (one,), ("top", "m", 0, 0), giver), (0, "a", (two,), ("own", "m", 0), giver)),
                          (("def", 0, 0, stx("x", (one,))), ("expr", 1, 0, stx("(x y)", (two,))))))

    def test_variables(self):
        one = number(1)
        self.check("variables", self.changed(5, lambda rows: rows.append(("def", 0, 1, one))), self.changed(5, lambda rows: rows.append(("def", 0, 3, one))),
                   self.changed(5, lambda rows: rows.append(("def", 2, 1, one))), self.changed(5, lambda rows: rows.append(("mac", 0, 0, one))),
                   self.changed(5, lambda rows: rows.append(("mac", 2, 1, one))), self.changed(5, lambda rows: rows.insert(0, ("def", 0, 1, one))))
        self.check(None, self.changed(5, lambda rows: rows.append(("def", 0, 2, one))), self.changed(5, lambda rows: rows.append(("mac", 0, 1, one))),
                   self.changed(5, lambda rows: rows.append(("def", 3, 0, one))), self.changed(5, lambda rows: rows.append(("mac", 2, 0, one))))

    def test_targets(self):
        giver = ("m", 0)
        for target in (("top", "m", 0, 2), ("top", "m", 2, 0), ("top", "a", 0, 2), ("top", "a", 1, 0), ("top", "b", 0, 0), ("macro", "m", 0, 1),
                       ("macro", "m", 3, 0), ("macro", "a", 0, 1), ("macro", "b", 0, 0)):
            self.check("targets", self.changed(3, lambda rows: rows.append(("n", 0, target, giver))),
                       self.changed(4, lambda rows: rows.append((0, "n", (), target, giver))))
            if target[0] == "top":
                self.check("targets", self.changed(5, lambda rows: rows.append(("expr", 0, 0, (*target, AT)))),
                           self.changed(5, lambda rows: rows.append(("expr", 1, 0, fn((0,), ("set", (*target, AT), local(0)))))),
                           self.changed(5, lambda rows: rows.append(("mac", 0, 1, fn((), (*target, AT))))))
        for target in (("local", "a", 0), ("own", "a", 0)):
            self.check("targets", self.changed(3, lambda rows: rows.append(("n", 0, target, giver))),
                       self.changed(4, lambda rows: rows.append((0, "n", (), target, giver))))
        for target in (("top", "m", 0, 1), ("top", "m", 1, 1), ("top", "a", 0, 1), ("macro", "a", 0, 0), ("macro", "m", 0, 0)):
            self.check(None, self.changed(3, lambda rows: rows.append(("n", 0, target, giver))),
                       self.changed(4, lambda rows: rows.append((0, "n", (), target, giver))))

    def test_bindings(self):
        giver = ("m", 0)
        self.check("bindings", self.changed(4, lambda rows: rows.append(rows[0])), self.changed(4, lambda rows: rows.append((*rows[0][:4], ("m", 77)))),
                   self.changed(4, lambda rows: rows.append((0, "n", (("k", 0, 0),), ("local", "m", 0), giver))),
                   self.changed(4, lambda rows: rows.append((0, "n", (("k", 0, 0),), ("own", "m", 0), giver))))
        # An empty set is included in each one, as long as there is one.
        self.check(None, self.changed(4, lambda rows: rows.append((0, "n", (), ("local", "m", 0), giver))),
                   self.changed(4, lambda rows: rows.append((3, *rows[0][1:]))))
        self.check("bindings", ("module", "m", (), (), ((0, "n", (), ("local", "m", 0), giver),), ()))

    def test_offers(self):
        giver = ("m", 0)
        self.check("offers", self.changed(3, lambda rows: rows.append(rows[0])), self.changed(3, lambda rows: rows.append(("n", 0, ("local", "m", 0), giver))),
                   self.changed(3, lambda rows: rows.append(("n", 0, ("own", "m", 0), giver))),
                   self.changed(3, lambda rows: rows.append(("y", 0, ("top", "m", 0, 1), giver))))
        self.check(None, self.changed(3, lambda rows: rows.append(("y", 1, ("top", "m", 0, 1), giver))))

    def test_two_at_once(self):
        giver = ("m", 0)
        breaks = [
            ("form", 5, ("def", 9, 0, number(1))), ("terms", 5, ("expr", 0, 0, local(5))), ("uses", 2, ("b", 0)),
            ("scopes", 4, (0, "zz", (("m", 99, 0),), ("top", "m", 0, 0), giver)), ("variables", 5, ("def", 0, 7, number(1))),
            ("targets", 3, ("zz", 0, ("top", "m", 3, 0), giver)), ("bindings", 4, (0, "zzz", (("k", 0, 0),), ("local", "m", 0), giver)),
            ("offers", 3, ("zzz", 0, ("local", "m", 0), giver))]
        for first, (code, at, row) in enumerate(breaks):
            self.check(code, self.changed(at, lambda rows: rows.append(row)))
            for _, other, more in breaks[first + 1:]:
                value = with_part(self.changed(at, lambda rows: rows.append(row)), (other,), lambda rows: rows.append(more))
                self.check(code, value)
                value = with_part(self.changed(other, lambda rows: rows.insert(0, more)), (at,), lambda rows: rows.append(row))
                self.assertEqual(fault(value, self.others), code)

    def test_nothing_is_modified(self):
        others = dict(self.others)
        self.assertIsNone(fault(self.module, others))
        self.assertEqual(others, self.others)

    def check_all(self, texts):
        artifacts = {made.artifact()[1]: made.artifact() for made in compile_all(texts)}
        for name, artifact in artifacts.items():
            self.assertIsNone(fault(artifact, {other: artifacts[other] for other in artifacts if other != name}))
            for item in artifact[5]:
                self.assertTrue(is_term(item[3]))
                self.assertTrue(is_term_plainly(item[3]))

    def test_what_compiling_gives(self):
        self.check_all(SAMPLES)
        self.check_all(library())
        self.assertEqual(len(ORDER), len(SAMPLES))
        rng = seeded(52)
        count = 0
        for _ in range(2500):
            texts = RandomModules(rng).modules()
            try:
                self.check_all(texts)
                count += 1
            except WhereError:
                continue
        self.assertGreater(count, 100)

    def test_changed_artifacts(self):
        """Whatever is changed, a code or None is told, and no error is raised."""
        rng = seeded(53)
        told = {}
        for _ in range(4000):
            value = mutated(rng, rng.choice([self.module, self.artifacts["a"]]))
            told[fault(value, self.others)] = True
        self.assertEqual(set(told), {None, "form", "terms", "uses", "scopes", "variables", "targets", "bindings", "offers"})


if __name__ == "__main__":
    unittest.main()
