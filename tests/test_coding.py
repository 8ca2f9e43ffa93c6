"""Code (points 63 to 67)."""

import unittest

from codemachine import CodeMachine, is_sound_plainly
from helper import AT, artifacts_of, call, flag, fn, local, number, outcome, prim, seeded, stx, syn
from samples import ORDER, SAMPLES
from test_evaluating import RandomTerms
from wherewritten.artifacts import read_artifact, write_artifact
from wherewritten.coding import code_of, is_sound
from wherewritten.evaluating import evaluate
from wherewritten.walking import terms_in


def many_terms(term):
    """How many terms are in a term, those in fn too, but without the variables of set."""
    return len(terms_in(term)) - sum(part[0] == "set" for part in terms_in(term))


def many_instructions(code):
    return sum(len(block[3]) for block in code)


def run_plainly(code, fuel):
    return CodeMachine(code, fuel).run()


class TestCode(unittest.TestCase):
    def check(self, term, fuels=(0, 1, 2, 3, 5, 8, 1000)):
        code = code_of(term)
        self.assertIs(is_sound(code), True, code)
        self.assertLessEqual(many_instructions(code), 12 * many_terms(term))
        for fuel in fuels:
            self.assertEqual(outcome(run_plainly, code, fuel), outcome(evaluate, term, fuel), (term, fuel))
        return code

    def test_leaves(self):
        self.check(number(1))
        self.check(prim("list"))
        self.check(stx("(a b)"))
        self.check(("rules", syn("(rules () ((_ a) a))")))
        self.check(("pattern", syn("(() a)")))
        self.check(("template", syn("(a)"), (("a", (), 0, 0),)))
        self.assertTrue(is_sound(code_of(("top", "m", 0, 3, AT))))

    def test_all_forms(self):
        x = local(0)
        self.check(call("+", number(1), number(2)))
        self.check(call(fn((0, 1), call("list", local(1), x)), number(1), number(2)))
        self.check(("if", flag(False), number(1), number(2)))
        self.check(("if", ("if", flag(True), flag(False), flag(True)), number(1), ("if", number(0), number(3), number(4))))
        self.check(call("list", ("if", flag(False), number(1), number(2)), ("do", (number(1), number(2)))))
        self.check(("do", (number(1), ("do", (number(2),)), number(3))))
        self.check(("rec", (), number(1)))
        self.check(("rec", ((0, number(1)), (1, x)), call("list", x, local(1))))
        self.check(("rec", ((0, local(1)), (1, number(2))), x))
        self.check(call(fn((0,), ("do", (("set", x, number(5)), x))), number(1)))
        self.check(("rec", ((0, ("set", x, number(1))),), x))
        code = self.check(("set", ("top", "m", 1, 2, AT), number(1)), ())
        self.assertEqual(code, ((0, 0, 0, (("begin", 2), ("const", ("number", 1)), ("settop", "m", 1, 2, AT), ("return",))),))
        self.check(call(fn((0,), fn((), ("set", x, call("+", x, number(1))))), number(1)))
        counter = call(fn((0,), fn((), ("set", x, call("+", x, number(1))))), number(1))
        self.check(call(fn((1,), call("list", call(local(1)), call(local(1)))), counter))

    def test_errors(self):
        for term in (call(number(1)), call(fn((0,), local(0))), call("first", number(1)), call("fail", number(1)),
                     call(call(fn((), fn((0, 1), number(2)))), number(1)), call("free=?", stx("a"), stx("b"))):
            self.check(term)
            self.check(call("list", term))

    def test_blocks_in_blocks(self):
        inner = fn((2,), call("list", local(0), local(1), local(2)))
        code = self.check(call(call(fn((0,), call(fn((1,), inner), number(2))), number(1)), number(3)))
        self.assertEqual(len(code), 4)
        self.assertEqual([block[0] for block in code], [0, 1, 1, 1])
        # An outer box is there once for each variable.
        code = self.check(call(fn((0,), fn((), fn((), call("list", local(0), local(0)))), ), number(1)))
        self.assertEqual([block[2] for block in code], [0, 0, 1, 1])
        deep = local(0)
        for at in range(100, 0, -1):
            deep = call(fn((at,), deep), number(at))
        self.check(call(fn((0,), deep), number(7)))

    def test_random_terms(self):
        rng = seeded(9)
        told = {}
        for _ in range(4000):
            term = RandomTerms(rng).term(rng.randrange(2, 7), [])
            for fuel in (rng.choice([0, 1, 3, 7]), rng.choice([10, 20, 50]), 400):
                self.check(term, (fuel,))
                mine = outcome(evaluate, term, fuel)
                told[mine[1] if mine[0] != "gives" else "gives"] = True
        self.assertLessEqual({"gives", "fuel", "early", "kind", "count", "apply", "size"}, set(told))

    def test_tail_calls(self):
        again = call(local(0), call("-", local(1), number(1)))
        for wrap in (lambda term: term, lambda term: ("do", (number(1), term)), lambda term: ("rec", (), term),
                     lambda term: ("if", flag(True), term, number(1)), lambda term: ("if", flag(False), number(1), term),
                     lambda term: ("rec", ((3, number(1)),), ("do", (local(3), ("if", number(0), term, term)))),
                     lambda term: call(fn((3,), term), number(1))):
            step = fn((1,), ("if", call("=", local(1), number(0)), number(0), wrap(again)))
            term = ("rec", ((0, step),), call(local(0), number(50)))
            machine = CodeMachine(code_of(term), 100000)
            self.assertEqual(machine.run(), evaluate(term, 100000))
            self.assertEqual(machine.deepest, 1)
        # A call that waits for another one does not end its block.
        step = fn((1,), ("if", call("=", local(1), number(0)), number(0), call("+", number(1), again)))
        machine = CodeMachine(code_of(("rec", ((0, step),), call(local(0), number(50)))), 100000)
        self.assertEqual(machine.run()[0], "50")
        self.assertEqual(machine.deepest, 51)

    def test_terms_of_modules(self):
        for artifact in artifacts_of({name: SAMPLES[name] for name in ORDER}).values():
            for item in artifact[5]:
                code = code_of(item[3])
                self.assertIs(is_sound(code), True)
                self.assertLessEqual(many_instructions(code), 12 * many_terms(item[3]))
                self.assertEqual(read_artifact(write_artifact(code)), code)

    def test_long_terms(self):
        # Sizes at which begin and what ends a block count most.
        for term in (fn((), number(1)), fn((), fn((), fn((), number(1)))), ("rec", ((0, number(1)), (1, number(2))), local(0)),
                     ("if", flag(True), fn((), number(1)), fn((), number(2)))):
            self.check(term)


def block(*instructions, slots=0):
    """Sound code of one block with some instructions in the middle."""
    return ((0, slots, 0, (("begin", 1), *instructions)),)


ONE = ("const", ("number", 1))
END = ("return",)


class TestSoundness(unittest.TestCase):
    def check(self, truth, *codes):
        for code in codes:
            self.assertIs(is_sound(code), truth, code)

    def test_blocks(self):
        self.check(True, block(ONE, END), block(ONE, END, slots=4))
        self.check(False, (), ((),), (1,), (None,), ((0, 0, 0),), ((0, 0, 0, ()),), ((0, 0, 0, None),), ((0, 0, 0, (("begin", 1),)),))
        good = (("begin", 1), ONE, END)
        for head in ((1, 1, 0), (0, 0, 1), (-1, 0, 0), (0, -1, 0), (False, 0, 0), (0, False, 0), (0, 0, False), ("0", 0, 0), (0, None, 0)):
            self.check(False, ((*head, good),))
        procedure = (("begin", 1), ("close", 1, ()), END)
        self.check(True, ((0, 0, 0, procedure), (2, 2, 0, good)), ((0, 0, 0, procedure), (2, 3, 0, good)))
        self.check(False, ((0, 0, 0, procedure), (2, 1, 0, good)), ((0, 0, 0, procedure), (0, 0, 1, good)))
        self.check(False, ((0, 0, 0, procedure),), ((0, 0, 0, procedure), (0, 0, 0, (ONE, END))))
        # Blocks that nothing makes a procedure of are looked at, too.
        self.check(True, ((0, 0, 0, good), (0, 0, 5, good)))
        self.check(False, ((0, 0, 0, good), (0, 0, 0, (("begin", 1), ONE))))

    def test_begin_and_end(self):
        self.check(False, ((0, 0, 0, (ONE, ("begin", 1), END)),), block(ONE), block(ONE, ("drop",)), block(ONE, END, ONE),
                   block(ONE, END, ("jump", 4)), block(ONE, END, ("jump", 1)), block(ONE, ("unless", 3)))
        self.check(True, block(("jump", 3), END, ONE, END), block(("begin", 3), ONE, END))
        self.check(False, block(("begin", 0), ONE, END), block(("begin", -1), ONE, END), block(("begin", True), ONE, END),
                   block(("begin",), ONE, END), block(("begin", 1, 1), ONE, END), block(("begin", "1"), ONE, END),
                   block(("begin", None), ONE, END))

    def test_heights(self):
        self.check(True, block(ONE, ONE, ("drop",), END), block(ONE, ("tail", 0, AT)), block(ONE, ONE, ONE, ("tail", 2, AT)),
                   block(ONE, ONE, ("call", 1, AT), END), block(ONE, ("call", 0, AT), ("call", 0, AT), END),
                   block(ONE, ("fill", 0), ("slot", 0, AT), ("set", "slot", 0, AT), END, slots=1),
                   block(("new", 0), ONE, END, slots=1), block(ONE, ("settop", "m", 0, 0, AT), END))
        self.check(False, block(END), block(ONE, ONE, END), block(("drop",), ONE, END), block(ONE, ("drop",), END),
                   block(("tail", 0, AT)), block(ONE, ONE, ("tail", 0, AT)), block(ONE, ("tail", 1, AT)), block(ONE, ("call", 1, AT), END),
                   block(ONE, ONE, ONE, ("call", 1, AT), END), block(("fill", 0), ONE, END, slots=1),
                   block(("set", "slot", 0, AT), ONE, END, slots=1), block(("settop", "m", 0, 0, AT), ONE, END),
                   block(("unless", 2), ONE, END))

    def test_where_ways_meet(self):
        self.check(True, block(ONE, ("unless", 5), ONE, ("jump", 6), ONE, END), block(ONE, ("unless", 3), ONE, END))
        self.check(False, block(ONE, ("unless", 5), ONE, ("jump", 6), ("begin", 1), END),
                   block(ONE, ("unless", 4), ONE, ONE, END), block(ONE, ("unless", 5), ONE, ("jump", 5), ONE, END),
                   block(ONE, ONE, ("unless", 5), ("drop",), ONE, END))

    def test_what_can_not_be_reached(self):
        self.check(True, block(ONE, END, ("drop",), ("drop",), END), block(ONE, END, END), block(ONE, ("jump", 4), ("tail", 7, AT), END),
                   block(ONE, END, ONE, ONE, ("tail", 0, AT)))
        self.check(False, block(ONE, END, ("drop", 1), END), block(ONE, END, ("slot", 0, AT), END), block(ONE, END, ("jump", 9), END),
                   block(ONE, END, ("nope",), END))

    def test_operands(self):
        def with_one(*instruction):
            return ((0, 2, 0, (("begin", 1), ("close", 1, (("slot", 1),)), ("drop",), ONE, instruction, ONE, ("drop",), END)),
                    (0, 1, 1, (("begin", 1), ONE, instruction, ONE, ("drop",), END)))

        def on_stack(*instruction):
            return ((0, 2, 0, (("begin", 1), instruction, ONE, ("drop",), END)), (1, 2, 2, (("begin", 1), ONE, END)))

        self.check(True, on_stack("slot", 1, AT), on_stack("top", "m", 3, 7, AT), on_stack("prim", "+"), on_stack("syntax", syn("(a 1)")),
                   on_stack("close", 1, (("slot", 0), ("slot", 0))), on_stack("const", ("list", (("flag", True), ("text", "a")))))
        self.check(True, on_stack("rules", syn("(rules () ((_ a) a))")), on_stack("pattern", syn("((k) (a k))")),
                   on_stack("template", syn("(a ...)"), (("a", (), 0, 1),)), on_stack("close", 0, ()))
        self.check(False, on_stack("slot", 2, AT), on_stack("slot", -1, AT), on_stack("slot", True, AT), on_stack("slot", 0, None),
                   on_stack("slot", 0), on_stack("slot", 0, AT, AT), on_stack("slot", 0, ("m", -1)), on_stack("slot", 0, ("m", True)),
                   on_stack("slot", 0, ("M", 1)), on_stack("slot", 0, ("m", 1, 1)), on_stack("slot", 0, (1, "m")), on_stack("slot", 0, 5),
                   on_stack("outer", 0, AT), on_stack("top", "m", 4, 0, AT), on_stack("top", "m", -1, 0, AT), on_stack("top", "m", 0, -1, AT),
                   on_stack("top", "m", True, 0, AT), on_stack("top", "m", 0, False, AT), on_stack("top", "M", 0, 0, AT),
                   on_stack("top", 5, 0, 0, AT), on_stack("top", "m", 0, 0), on_stack("prim", "nope"), on_stack("prim", None),
                   on_stack("prim", 5), on_stack("prim"), on_stack("const"), on_stack("syntax"), on_stack("template", syn("a")))
        a, scopes = syn("(a a b)"), (("m", 0, 0),)
        self.check(True, on_stack("template", a, (("a", (), 0, 0), ("b", (), 0, 0), ("b", scopes, 7, 4))), on_stack("template", a, ()))
        for rows in (None, 5, "", (5,), (None,), ((),), (("a", (), 0),), (("a", (), 0, 0, 0),), (("A", (), 0, 0),), ((1, (), 0, 0),),
                     (("a", None, 0, 0),), (("a", (5,), 0, 0),), (("a", scopes * 2, 0, 0),), (("a", (), -1, 0),), (("a", (), True, 0),),
                     (("a", (), 0, False),), (("a", (), 0, -1),), (("c", (), 0, 5),), (("a", (), 0, 1),), (("a", (), None, 0),),
                     (("a", (), 0, 0), ("a", (), 1, 0)), (("c", (), 0, 1), ("d", (), 0, 2))):
            self.check(False, on_stack("template", a, rows))
        self.check(False, on_stack("template", syn("(... a)"), (("a", (), 0, 0), 5)), on_stack("template", syn("(a ...)"), ()),
                   on_stack("template", 2, ()), on_stack("const", 5), on_stack("syntax", None))
        self.check(False, on_stack("close", 2, (("slot", 0), ("slot", 0))), on_stack("close", -1, ()), on_stack("close", 1, (("slot", 0),)),
                   on_stack("close", 1, ()), on_stack("close", 1, (("slot", 0), ("slot", 2))), on_stack("close", 1, (("slot", 0), ("outer", 0))),
                   on_stack("close", 1, (("slot", 0), ("slot", True))), on_stack("close", 1, (("slot", 0), ("slot",))),
                   on_stack("close", 1, (("slot", 0), "slot")), on_stack("close", 1, None), on_stack("close", True, (("slot", 0), ("slot", 0))),
                   on_stack("close", 1, (("slot", 0), (None, 0))))
        self.check(True, with_one("set", "slot", 0, AT), with_one("settop", "m", 0, 0, AT))
        self.check(False, with_one("set", "outer", 0, AT), with_one("set", "slot", 2, AT), with_one("set", "slot", 1, AT),
                   with_one("set", "top", 0, AT), with_one("set", "slot", 0), with_one("set", None, 0, AT), with_one("set", "slot", False, AT),
                   with_one("settop", "m", 9, 0, AT), with_one("set", ("slot",), 0, AT))
        good = (("begin", 1), ONE, END)
        for row, truth in ((("outer", 0), True), (("slot", 0), False), (("nope", 0), False), ((None, 0), False), (("outer", 1), False)):
            within = (0, 0, 1, (("begin", 1), ("close", 1, (row,)), END))
            self.check(truth, ((0, 0, 0, good), within))
        for kind, truth in (("outer", True), ("slot", False), ("nope", False)):
            within = (0, 0, 1, (("begin", 1), ONE, ("set", kind, 0, AT), END))
            self.check(truth, ((0, 0, 0, good), within))
        self.check(False, block(ONE, ("call", True, AT), END), block(ONE, ("call", -1, AT), END), block(ONE, ("call", 0, None), END),
                   block(ONE, ("tail", False, AT)), block(ONE, ("call", 0), END), block(("fill", 0), END), block(("new", 0), ONE, END),
                   block(("new", True), ONE, END, slots=2), block(ONE, ("fill", True), ONE, END, slots=2),
                   block(("jump", True), ONE, END), block(ONE, ("unless", "4"), ONE, END), block(("jump", 1), ONE, END),
                   block(("jump", 0), ONE, END), block(ONE, 5, END), block(ONE, (), END), block(ONE, (5,), END), block(ONE, (("drop",),), END),
                   block(ONE, None, END), block(ONE, "return"))

    def mutated(self, rng, code):
        """Code with one thing changed at random."""
        blocks = [list(one) for one in code]
        chosen = rng.choice(blocks)
        rows = list(chosen[3])
        at = rng.randrange(len(rows))
        pick = rng.randrange(9)
        if pick == 0:
            del rows[at]
        elif pick == 1:
            rows.insert(at, rows[at])
        elif pick == 2:
            other = rng.randrange(len(rows))
            rows[at], rows[other] = rows[other], rows[at]
        elif pick in (3, 4, 5):
            parts = list(rows[at])
            which = rng.randrange(len(parts))
            if isinstance(parts[which], int):
                parts[which] = rng.choice([parts[which] + 1, parts[which] - 1, True, False, None, "m", 0, 99])
            elif which > 0 and parts[which] in ("slot", "outer"):
                parts[which] = rng.choice(["slot", "outer"])
            elif which > 0 and isinstance(parts[which], tuple) and parts[0] in ("slot", "outer", "call", "tail", "top"):
                parts[which] = rng.choice([None, (), ("m",), ("m", -1), ("m", True), ("m", 3)])
            elif which > 0 and parts[0] == "close":
                parts[which] = rng.choice([parts[which][:-1], parts[which] + (("slot", 0),), tuple(
                    (kind, index + 1) for kind, index in parts[which])])
            else:
                parts = parts + [rng.choice([0, None])] if rng.random() < 0.5 else parts[:-1]
            rows[at] = tuple(parts)
        elif pick == 6:
            which = rng.randrange(3)
            chosen[which] = rng.choice([chosen[which] + 1, chosen[which] - 1, True, None])
        elif pick == 7:
            words = ("drop", "return", "jump", "unless", "new", "fill", "slot", "outer", "call", "tail", "begin")
            rows[at] = (rng.choice(words), *rows[at][1:])
        else:
            rows.insert(at, rng.choice([("drop",), END, ONE, ("begin", 1), ("jump", at + 2), ("unless", at + 2), ("new", 0), ("fill", 0)]))
        chosen[3] = tuple(rows)
        return tuple(tuple(one) for one in blocks)

    def test_changed_code(self):
        rng = seeded(10)
        told = {True: 0, False: 0}
        for _ in range(1500):
            code = code_of(RandomTerms(rng).term(rng.randrange(2, 6), []))
            for _ in range(6):
                changed = self.mutated(rng, code)
                truth = is_sound_plainly(changed)
                self.assertIs(is_sound(changed), truth, changed)
                told[truth] += 1
        self.assertGreater(min(told.values()), 500)


if __name__ == "__main__":
    unittest.main()
