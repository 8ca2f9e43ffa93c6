"""The desk (point 62)."""

import unittest

from helper import seeded, spot
from samples import SAMPLES
from wherewritten.calling import called_otherwise, compile_all
from wherewritten.desk import Desk
from wherewritten.looks import growths
from wherewritten.store import Store


def texts_of(desk):
    return {name: desk.store().text(name) for name in desk.store().names()}


def built_of(desk):
    return {name: desk.store().artifact(name) for name in desk.store().names()}


class DeskCase(unittest.TestCase):
    A = "(def x 1) (defmac m (rules () ((_ y) (list x y)))) (offer x m)"
    B = "(use a) (m 2) x (let ((z 1)) 2)"

    def setUp(self):
        self.desk = Desk()
        self.check("done\n", "put", "a", self.A)
        self.check("done\n", "put", "b", self.B)

    def check(self, answer, *command):
        self.assertEqual(self.desk.answer(command), answer, command)

    def check_error(self, answer, *command):
        """The answer is an error, and nothing changes."""
        texts, built = texts_of(self.desk), built_of(self.desk)
        self.check("error " + answer + "\n", *command)
        self.assertEqual((texts_of(self.desk), built_of(self.desk)), (texts, built))


class TestCommands(DeskCase):
    def test_build(self):
        self.check("a new none\nb new none\n", "build", "b")
        self.check("", "build", "b")
        self.check("done\n", "put", "a", self.A.replace("(list x y)", "(list y x)"))
        self.check("a text none\nb interface a\n", "build", "b")
        self.assertEqual(self.desk.store().run("b", 10), [("b", "(2 1)"), ("b", "1"), ("b", "2")])

    def test_run_and_program(self):
        self.check("b (1 2)\nb 1\nb 2\n", "run", "b", 100)
        self.check("module a\n(def a:0:0 1)\nmodule b\n(list a:0:0 2)\na:0:0\n((fn (v0) 2) 1)\n", "program", "b")
        self.check("", "build", "b")
        self.check("", "run", "a", 1)
        self.check("module a\n(def a:0:0 1)\n", "program", "a")

    def test_a_run_that_fails_is_forgotten(self):
        self.check_error("RunError fuel none", "run", "b", 0)
        self.assertEqual(built_of(self.desk), {"a": None, "b": None})
        self.check("done\n", "put", "c", "(use a) (def y x) (fail y)")
        self.check("a new none\n", "build", "a")
        self.check_error("RunError fail c:7", "run", "c", 1000000)
        self.check("c new none\n", "build", "c")
        self.check_error("RunError fail c:7", "run", "c", 1000000)
        self.check("", "build", "c")

    def test_arrows_and_groups(self):
        self.check("from a:16\nfrom a:20\nfrom b:6\n", "arrows", "a", 2)
        self.check("to a:2\n", "arrows", "b", 6)
        self.check("from a:21\nfrom b:4\n", "arrows", "a", 6)
        self.check("", "arrows", "a", 5)
        self.check("a:2\na:16\na:20\nb:6\n", "group", "a", 2)
        self.check("a:2\na:16\na:20\nb:6\n", "group", "b", 6)
        self.check("a:5\n", "group", "a", 5)
        self.check("done\n", "put", "c", "(use (only a x)) (let ((y x)) (list x y))")
        text = self.desk.store().text("c")
        self.check("to a:2\n", "arrows", "c", spot(text, "x))"))
        self.check(f"from c:{spot(text, 'y))')}\n", "arrows", "c", spot(text, "y x"))
        # Nothing is built by these.
        self.assertEqual(built_of(self.desk), {"a": None, "b": None, "c": None})

    def test_those_to_others_come_first(self):
        self.check("done\n", "put", "a", "(def x 1) (offer (as x y))")
        self.check("done\n", "put", "b", "(use (rename a (y z))) z (offer z)")
        self.check("done\n", "put", "c", "(use b) z")
        self.check("from b:8\nfrom b:11\nfrom c:3\n", "arrows", "b", 7)
        self.check("to b:7\n", "arrows", "b", 8)
        self.check("to a:9\n", "arrows", "b", 6)
        # The literal refers to the variable, and that of the pattern to the literal.
        self.check("done\n", "put", "d", "(def k 1) (defmac m (rules (k) ((_ k) 1) ((_ a) 2))) (m k)")
        text = self.desk.store().text("d")
        self.check(f"to d:2\nfrom d:{spot(text, 'k) 1')}\n", "arrows", "d", spot(text, "k) (("))

    def test_steps(self):
        self.check("b:3 0 1\n", "steps", "b")
        self.check("", "steps", "a")
        self.check("done\n", "put", "c", "(use a) (up (use a) (def y (m 1)) (defmac n (fn (s) #'1))) (m (m 3)) (defmac k (n)) ")
        text = self.desk.store().text("c")
        lines = [f"c:{spot(text, '(m (m')} 0 1", f"c:{spot(text, '(n)')} 1 -1"]
        answer = self.desk.answer(("steps", "c"))
        self.assertEqual(answer.split("\n")[0], f"c:{spot(text, '(m 1)')} 1 1")
        for line in lines:
            self.assertIn(line, answer.split("\n"))
        self.check_error("StoreError absent", "steps", "d")

    def test_loose(self):
        self.check("b:11\n", "loose")
        self.check("done\n", "put", "c", "(def q 1) (fn (r) (let ((s 1)) (match 1 () (t 1))))")
        text = self.desk.store().text("c")
        places = [spot(text, mark) for mark in ("q 1", "r)", "s 1", "t 1")]
        self.check("b:11\n" + "".join(f"c:{place}\n" for place in places), "loose")

    def test_call(self):
        self.check("done\n", "call", "a", 2, "q")
        self.assertEqual(texts_of(self.desk), {"a": self.A.replace("x", "q"), "b": self.B.replace(" x ", " q ")})
        self.check("done\n", "call", "b", 11, "x")
        self.assertEqual(self.desk.store().text("b"), "(use a) (m 2) q (let ((x 1)) 2)")
        self.check_error("StoreError changes", "call", "a", 2, "list")
        self.check("done\n", "call", "b", 11, "let")
        self.assertEqual(self.desk.store().text("b"), "(use a) (m 2) q (let ((let 1)) 2)")
        self.check_error("StoreError place", "call", "b", 0, "t")
        self.check_error("StoreError place", "call", "c", 0, "t")
        self.check_error("StoreError name", "call", "b", 11, "T")
        self.check_error("StoreError fixed", "call", "b", 1, "t")

    def test_call_long(self):
        self.check("done\n", "put", "c", "(def x 1);" + "-" * 5990)
        self.check("done\n", "call", "c", 2, "y")
        self.check_error("StoreError long", "call", "c", 2, "xy")

    def test_store(self):
        self.assertIsInstance(self.desk.store(), Store)
        self.assertIs(self.desk.store(), self.desk.store())
        self.assertEqual(Desk().store().names(), [])
        self.check("done\n", "drop", "b")
        self.assertEqual(self.desk.store().names(), ["a"])


class TestUndo(DeskCase):
    def test_undo(self):
        states = [texts_of(self.desk)]
        for command in (("put", "a", "(def y 1)"), ("drop", "b"), ("put", "c", "x"), ("put", "c", "(def k 1)"), ("call", "c", 2, "j"),
                        ("put", "c", "(def j 1)")):
            self.check("done\n", *command)
            states.append(texts_of(self.desk))
        self.check_error("StoreError name", "put", "C", "1")
        self.check_error("StoreError absent", "drop", "e")
        for state in states[-2::-1]:
            self.check("done\n", "undo")
            self.assertEqual(texts_of(self.desk), state)
        self.check("done\n", "undo")
        self.check("done\n", "undo")
        self.assertEqual(texts_of(self.desk), {})
        self.check_error("StoreError undo", "undo")
        self.check("done\n", "put", "a", "1")
        self.check("done\n", "undo")
        self.check_error("StoreError undo", "undo")

    def test_what_was_built_stays(self):
        self.check("a new none\nb new none\n", "build", "b")
        self.check("done\n", "put", "a", "(list nope)")
        self.check("done\n", "undo")
        self.check("", "build", "b")
        self.check("done\n", "put", "c", "(use b)")
        self.check("c new none\n", "build", "c")
        self.check("done\n", "undo")
        self.check("done\n", "put", "c", "(use b)")
        self.check("c new none\n", "build", "c")
        self.check("done\n", "drop", "a")
        self.check("done\n", "undo")
        self.check("a new none\n", "build", "b")

    def test_new_changes_behind_one_that_was_taken_back(self):
        self.check("done\n", "put", "c", "1")
        self.check("done\n", "undo")
        self.check("done\n", "put", "c", "2")
        self.check("done\n", "put", "c", "3")
        self.check("done\n", "undo")
        self.assertEqual(self.desk.store().text("c"), "2")
        self.check("done\n", "undo")
        self.assertEqual(self.desk.store().names(), ["a", "b"])

    def test_a_full_store(self):
        for number in range(10):
            self.check("done\n", "put", f"m{number}", "1")
        self.check_error("StoreError many", "put", "m10", "1")
        self.check("done\n", "drop", "m3")
        self.check("done\n", "put", "m10", "1")
        self.check("done\n", "undo")
        self.check("done\n", "undo")
        self.assertEqual(len(self.desk.store().names()), 12)
        self.assertIn("m3", self.desk.store().names())


class TestErrors(DeskCase):
    def test_fields(self):
        self.check("done\n", "put", "c", "(list nope)")
        self.check_error("ExpandError unbound c:2", "build", "c")
        self.check_error("ExpandError unbound c:2", "loose")
        self.check_error("ExpandError unbound c:2", "arrows", "a", 2)
        self.check_error("ExpandError unbound c:2", "group", "a", 2)
        self.check_error("ExpandError unbound c:2", "steps", "a")
        self.check_error("ExpandError unbound c:2", "call", "a", 2, "z")
        self.check("done\n", "put", "c", "(list")
        self.check_error("ReadError 5", "program", "c")
        self.check_error("ReadError 5", "loose")
        self.check_error("ModuleError missing d", "build", "d")
        self.check_error("ModuleError missing d", "run", "d", 5)
        self.check_error("ModuleError missing d", "program", "d")
        self.check("done\n", "put", "c", "(use d)")
        self.check("done\n", "put", "d", "(use c)")
        self.check_error("ModuleError cycle c,d", "build", "c")
        self.check_error("ModuleError cycle d,c", "build", "d")
        self.check("done\n", "put", "c", "(defmac m (fn (s) (fail 1))) (m)")
        self.check_error("ExpandError run fail c:10", "build", "c")
        self.check("done\n", "put", "c", "(list y) (def y 1)")
        self.check_error("RunError early c:2", "run", "c", 5)

    def test_texts_and_names(self):
        self.check_error("StoreError name", "put", "core", "1")
        self.check_error("StoreError name", "put", "A", "1")
        self.check_error("StoreError long", "put", "c", " " * 6001)
        self.check_error("StoreError long", "put", "c", "\t")
        self.check_error("StoreError absent", "drop", "c")

    def test_place_and_absent_come_first(self):
        self.check("done\n", "put", "c", "(list nope 'x)")
        for place in (0, 4, 99):
            self.check_error("StoreError place", "arrows", "c", place)
            self.check_error("StoreError place", "group", "c", place)
            self.check_error("StoreError place", "call", "c", place, "z")
        self.check_error("StoreError place", "arrows", "d", 0)
        self.check_error("StoreError place", "group", "d", 0)
        self.check_error("StoreError absent", "steps", "d")
        self.check_error("ExpandError unbound c:2", "arrows", "c", 2)
        for text in ("(list x", "(use x) )", "(list x) 1x"):
            self.check("done\n", "put", "d", text)
            for place in range(4):
                for command in (("arrows", "d", place), ("group", "d", place), ("call", "d", place, "z")):
                    self.check_error("StoreError place", *command)
        self.check_error("ExpandError unbound c:2", "arrows", "a", 2)

    def test_commands(self):
        for command in ((), ("nope",), ("put",), ("put", "a"), ("put", "a", "1", "2"), ("put", "a", 1), ("put", 1, "a"), ("drop",),
                        ("drop", 1), ("drop", "a", "b"), ("undo", 1), ("build",), ("build", 5), ("build", "a", "b"), ("run", "a"),
                        ("run", "a", "5"), ("run", "a", -1), ("run", "a", 1000001), ("run", 5, "a"), ("run", "a", 5, 5), ("program",),
                        ("program", 1), ("arrows", "a"), ("arrows", "a", "2"), ("arrows", "a", -1), ("arrows", 2, "a"),
                        ("group", "a"), ("group", "a", -1), ("group", "a", 2, 3), ("steps",), ("steps", 1), ("loose", "a"), ("loose", 1),
                        ("call", "a", 2), ("call", "a", "2", "z"), ("call", "a", -1, "z"), ("call", "a", 2, 3), ("call", 2, "a", "z"),
                        (5,), (5, "a"), ("Put", "a", "1"), ("store",), ("run", "a", True), ("arrows", "a", True)):
            self.check_error("StoreError command", *command)
        self.check_error("StoreError place", "arrows", "a", 10 ** 30)
        self.check_error("StoreError place", "call", "a", 1000001, "z")
        self.check_error("RunError fuel none", "run", "b", 0)
        self.check("b (1 2)\nb 1\nb 2\n", "run", "b", 1000000)

    def test_a_wrong_command_is_no_change(self):
        self.check_error("StoreError command", "put", "a")
        self.check("done\n", "undo")
        self.assertEqual(self.desk.store().names(), ["a"])


class TestWithSamples(unittest.TestCase):
    def test_answers(self):
        desk = Desk()
        for name, text in SAMPLES.items():
            self.assertEqual(desk.answer(("put", name, text)), "done\n")
        made = dict(zip(sorted(SAMPLES), compile_all(SAMPLES)))
        for name in SAMPLES:
            rows = zip(made[name].steps(), growths(made[name]))
            self.assertEqual(desk.answer(("steps", name)),
                             "".join(f"{step[0][0]}:{step[0][1]} {step[1]} {growth}\n" for step, growth in rows))
        self.assertEqual(desk.answer(("build", "high")), "logic new none\ncount new none\nuser new none\nhigh new none\n")

    def test_calling_and_taking_back(self):
        desk = Desk()
        for name, text in SAMPLES.items():
            desk.answer(("put", name, text))
        desk.answer(("build", "high"))
        rng = seeded(13)
        done = 0
        for _ in range(30):
            name, place = rng.choice(list(SAMPLES)), rng.randrange(60)
            before = texts_of(desk)
            answer = desk.answer(("call", name, place, "zzz"))
            if answer == "done\n":
                done += 1
                self.assertEqual(texts_of(desk), called_otherwise(before, (name, place), "zzz"))
                self.assertEqual(desk.answer(("undo",)), "done\n")
            self.assertEqual(texts_of(desk), before)
        self.assertGreater(done, 5)
        self.assertEqual(desk.answer(("build", "high")), "")


if __name__ == "__main__":
    unittest.main()
