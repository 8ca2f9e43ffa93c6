import unittest

from helper import outcome, seeded
from wherewritten.resolving import judge_outcome, resolve, same_binder, same_reference

A, B, C = ("m", 0, 0), ("m", 1, 0), ("m", 2, 0)


def x(*scopes, name="x", place=7):
    return ("id", name, ("m", place), tuple(sorted(scopes)))


def binding(phase, name, scopes, n):
    return (phase, name, tuple(sorted(scopes)), ("local", "m", n))


class TestResolve(unittest.TestCase):
    def test_example(self):
        table = [binding(0, "x", (A,), 1), binding(0, "x", (B,), 2)]
        self.assertEqual(resolve(table, 0, x(A)), ("bound", 0))
        self.assertEqual(resolve(table, 0, x(A, B)), ("ambiguous", 0, 1))
        self.assertEqual(resolve(table, 1, x(A)), ("phase",))

    def test_unbound(self):
        table = [binding(0, "x", (A,), 1), binding(1, "y", (), 2)]
        self.assertEqual(resolve(table, 0, x()), ("unbound",))
        self.assertEqual(resolve(table, 0, x(B)), ("unbound",))
        self.assertEqual(resolve(table, 1, x(B)), ("unbound",))
        self.assertEqual(resolve(table, 0, x(A, name="z")), ("unbound",))
        self.assertEqual(resolve([], 0, x(A)), ("unbound",))
        self.assertEqual(resolve((), 3, x()), ("unbound",))

    def test_phases(self):
        table = (binding(3, "x", (), 1), binding(0, "x", (A,), 2))
        self.assertEqual(resolve(table, 0, x()), ("phase",))
        self.assertEqual(resolve(table, 0, x(A)), ("bound", 1))
        self.assertEqual(resolve(table, 3, x(A)), ("bound", 0))
        self.assertEqual(resolve(table, 2, x(A)), ("phase",))

    def test_the_greatest_one(self):
        table = [binding(0, "x", (), 0), binding(0, "x", (A,), 1), binding(0, "x", (A, B), 2), binding(0, "x", (C,), 3)]
        self.assertEqual(resolve(table, 0, x()), ("bound", 0))
        self.assertEqual(resolve(table, 0, x(A)), ("bound", 1))
        self.assertEqual(resolve(table, 0, x(A, B)), ("bound", 2))
        self.assertEqual(resolve(table, 0, x(A, C)), ("ambiguous", 1, 3))
        self.assertEqual(resolve(table, 0, x(A, B, C)), ("ambiguous", 2, 3))

    def test_one_that_includes_all_others_ends_a_tie(self):
        table = [binding(0, "x", (A,), 0), binding(0, "x", (B,), 1), binding(0, "x", (C,), 2)]
        self.assertEqual(resolve(table, 0, x(A, B, C)), ("ambiguous", 0, 1))
        self.assertEqual(resolve([*table, binding(0, "x", (A, B, C), 3)], 0, x(A, B, C)), ("bound", 3))
        self.assertEqual(resolve([*table, binding(0, "x", (A, B), 3)], 0, x(A, B, C)), ("ambiguous", 2, 3))
        self.assertEqual(resolve([binding(0, "x", (A, B, C), 3), *table], 0, x(A, B, C)), ("bound", 0))

    def test_bindings_with_a_giver(self):
        table = [(0, "x", (A,), ("top", "m", 0, 1), ("m", 3))]
        self.assertEqual(resolve(table, 0, x(A)), ("bound", 0))

    def test_against_the_words_of_the_document(self):
        rng = seeded(5)
        scopes = [("m", n, 0) for n in range(4)]
        for _ in range(2000):
            seen = {}
            for _ in range(rng.randrange(7)):
                chosen = tuple(one for one in scopes if rng.random() < 0.5)
                seen[(rng.randrange(2), rng.choice("xy"), chosen)] = True
            table = [(*key, ("local", "m", n)) for n, key in enumerate(seen)]
            identifier = x(*[one for one in scopes if rng.random() < 0.7])
            phase = rng.randrange(2)
            fits = [k for k, row in enumerate(table) if row[1] == "x" and set(row[2]) <= set(identifier[3])]
            here = [k for k in fits if table[k][0] == phase]
            best = [k for k in here if not any(set(table[k][2]) < set(table[j][2]) for j in here)]
            if len(best) == 1:
                told = ("bound", best[0])
            elif best:
                told = ("ambiguous", best[0], best[1])
            else:
                told = ("phase",) if fits else ("unbound",)
            self.assertEqual(resolve(table, phase, identifier), told)
            self.assertIs(judge_outcome(table, phase, identifier, told), True)

    def test_many_bindings(self):
        scopes = [("m", n, 0) for n in range(300)]
        table = [binding(0, "x", scopes[:n], n) for n in range(300)]
        self.assertEqual(resolve(table, 0, x(*scopes)), ("bound", 299))
        table = [binding(0, "x", (one,), n) for n, one in enumerate(scopes)]
        self.assertEqual(resolve(table, 0, x(*scopes)), ("ambiguous", 0, 1))

    def test_nothing_is_changed(self):
        table = [binding(0, "x", (A,), 1)]
        kept = list(table)
        outcome(resolve, table, 0, x(A, B))
        self.assertEqual(table, kept)


class TestJudge(unittest.TestCase):
    def test_others_are_wrong(self):
        table = [binding(0, "x", (A,), 1), binding(0, "x", (B,), 2)]
        self.assertIs(judge_outcome(table, 0, x(A, B), ("ambiguous", 0, 1)), True)
        for told in [("ambiguous", 1, 0), ("ambiguous", 0), ("bound", 0), ("unbound",), ("phase",), (), ("ambiguous",),
                     ("ambiguous", 0, 1, 2), (0, "ambiguous", 1), ("ambiguous", "0", "1"), ("ambiguous", False, True)]:
            self.assertIs(judge_outcome(table, 0, x(A, B), told), False, told)
        self.assertIs(judge_outcome(table, 0, x(B), ("bound", 1)), True)
        self.assertIs(judge_outcome(table, 0, x(B), ("bound", True)), False)
        self.assertIs(judge_outcome(table, 0, x(B), ("bound", 0)), False)
        self.assertIs(judge_outcome(table, 1, x(B), ("phase",)), True)
        self.assertIs(judge_outcome(table, 1, x(), ("unbound",)), True)
        self.assertIs(judge_outcome(table, 1, x(), ("phase",)), False)


class TestSame(unittest.TestCase):
    def test_same_binder(self):
        self.assertIs(same_binder(x(A), x(A, place=3)), True)
        self.assertIs(same_binder(x(A), x(A, B)), False)
        self.assertIs(same_binder(x(A), x(A, name="y")), False)

    def test_same_reference(self):
        table = [binding(0, "x", (A,), 1), binding(0, "y", (A,), 1), binding(0, "x", (B,), 2), binding(1, "z", (), 3),
                 binding(1, "x", (C,), 4)]
        y, z = x(A, name="y"), x(name="z")
        self.assertIs(same_reference(table, 0, x(A), x(A, C)), True)
        self.assertIs(same_reference(table, 0, x(A), y), True)
        self.assertIs(same_reference(table, 0, x(A), x(B)), False)
        self.assertIs(same_reference(table, 0, x(A), x()), False)
        self.assertIs(same_reference(table, 0, x(), x(A)), False)
        self.assertIs(same_reference(table, 0, z, x(name="z")), True)
        self.assertIs(same_reference(table, 0, x(), x(C)), True)
        self.assertIs(same_reference(table, 0, x(), z), False)
        self.assertIs(same_reference(table, 0, x(name="w"), x(B, name="w")), True)

    def test_ambiguous_ones_cannot_be_compared(self):
        table = [binding(0, "x", (A,), 1), binding(0, "x", (B,), 2)]
        self.assertIsNone(same_reference(table, 0, x(A, B), x(A)))
        self.assertIsNone(same_reference(table, 0, x(A), x(A, B)))
        self.assertIsNone(same_reference(table, 0, x(A, B), x(name="y")))
        self.assertIsNone(same_reference(table, 0, x(A, B), x(A, B)))
        self.assertIs(same_reference(table, 1, x(A, B), x(A)), True)


if __name__ == "__main__":
    unittest.main()
