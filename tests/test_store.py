"""Stores and building (points 53 to 57)."""

import unittest

from helper import outcome, seeded, spot
from samples import SAMPLES
from wherewritten.compiling import Compiled
from wherewritten.linking import program, run
from wherewritten.store import Store


def store_of(texts):
    store = Store()
    for name, text in texts.items():
        store.put(name, text)
    return store


def build_anew(texts, main):
    """What a new store with some texts tells: of a building, and the artifacts."""
    store = store_of(texts)
    told = outcome(store.build, main)
    return told, {name: store.artifact(name) for name in store.names()}


class StoreCase(unittest.TestCase):
    def check_refused(self, code, action, *args):
        self.assertEqual(outcome(action, *args), ("StoreError", code), args)


class TestStore(StoreCase):
    def test_texts(self):
        store = Store()
        self.assertEqual(store.names(), [])
        self.assertIsNone(store.put("b", "(def x 1)"))
        store.put("a", "")
        self.assertEqual(store.names(), ["a", "b"])
        self.assertEqual(store.text("b"), "(def x 1)")
        store.put("b", "(")
        self.assertEqual(store.text("b"), "(")
        self.assertIsNone(store.drop("b"))
        self.assertEqual(store.names(), ["a"])
        store.names().append("c")
        self.assertEqual(store.names(), ["a"])

    def test_names(self):
        store = Store()
        for name in ("", "A", "1a", "-1", "...", "_", "a b", "x" * 21, "core", "#t", "a(b"):
            self.check_refused("name", store.put, name, "1")
        for name in ("x" * 20, "-a", "core2", "a.b", "->", "__"):
            store.put(name, "1")
        self.assertEqual(len(store.names()), 6)

    def test_many(self):
        store = Store()
        for number in range(12):
            store.put(f"m{number}", "1")
        self.check_refused("many", store.put, "m12", "1")
        self.check_refused("name", store.put, "M", "1")
        self.check_refused("many", store.put, "m12", "1" * 6001)
        store.put("m3", "2")
        store.drop("m4")
        store.put("m12", "1")
        self.assertEqual(len(store.names()), 12)

    def test_long(self):
        store = Store()
        store.put("m", " " * 6000)
        self.check_refused("long", store.put, "m", " " * 6001)
        for sign in ("\t", "\r", "\x7f", "\x00", "\u00e4", "\u20ac"):
            self.check_refused("long", store.put, "m", "1 " + sign)
        self.assertEqual(store.text("m"), " " * 6000)
        store.put("m", "\n ~;^")
        self.check_refused("name", store.put, "M", " " * 6001)

    def test_absent(self):
        store = store_of({"a": "1"})
        for action in (store.drop, store.text, store.artifact, store.compiled):
            self.check_refused("absent", action, "b")
        self.assertIsNone(store.artifact("a"))
        self.assertIsNone(store.compiled("a"))

    def test_what_was_built(self):
        store = store_of({"a": "(def x 1) (offer x)", "b": "(use a) x"})
        store.build("b")
        self.assertIsInstance(store.compiled("b"), Compiled)
        self.assertEqual(store.artifact("b"), store.compiled("b").artifact())
        self.assertEqual(store.program("b"), "module a\n(def a:0:0 1)\nmodule b\na:0:0\n")
        self.assertEqual(store.run("b", 10), [("b", "1")])
        self.assertEqual(outcome(store.run, "b", 1), ("RunError", "fuel", None))
        self.assertEqual(outcome(store.run, "c", 1), ("ModuleError", "missing", ("c",)))
        # A new text changes nothing of it until the next building; without a text it is gone.
        store.put("a", "(def x 2) (offer x)")
        self.assertEqual(store.run("b", 10), [("b", "1")])
        store.drop("a")
        self.assertEqual(outcome(store.program, "b"), ("ModuleError", "missing", ("a",)))
        self.assertEqual(outcome(store.run, "b", 0), ("ModuleError", "missing", ("a",)))
        store.put("a", "(def x 3) (offer x)")
        self.assertIsNone(store.artifact("a"))
        self.assertEqual(outcome(store.program, "b"), ("ModuleError", "missing", ("a",)))

    def test_missing(self):
        store = store_of({"a": "1"})
        self.assertEqual(outcome(store.build, "b"), ("ModuleError", "missing", ("b",)))
        self.assertEqual(outcome(store.program, "a"), ("ModuleError", "missing", ("a",)))


class TestBuilding(StoreCase):
    TEXTS = {
        "base": "(def n 1) (def f (fn (x) (list x n))) (defmac m (rules () ((_ a) (list a n)))) (offer f m)",
        "low": "(use base) (def g (fn (y) (m y))) (offer g)",
        "high": "(up (use base)) (defmac k (fn (s) (wrap (first (f 7)) s))) (offer k)",
        "main": "(use low high) (list (g 1) (k))",
        "alone": "(def z 1)",
    }

    def setUp(self):
        self.store = store_of(self.TEXTS)

    def test_the_first_building(self):
        self.assertEqual(self.store.build("main"), [
            ("base", "new", None), ("low", "new", None), ("high", "new", None), ("main", "new", None)])
        self.assertEqual(self.store.build("main"), [])
        self.assertEqual(self.store.build("low"), [])
        self.assertIsNone(self.store.artifact("alone"))
        self.assertEqual(self.store.build("alone"), [("alone", "new", None)])

    def check_change(self, change, *report, main="main"):
        """The report of a building behind a change of base, which gives what a new store gives."""
        self.store.build("main")
        text = self.TEXTS["base"]
        self.assertNotEqual(change(text), text)
        self.store.put("base", change(text))
        self.assertEqual(self.store.build(main), list(report))
        texts = {**self.TEXTS, "base": change(text)}
        fresh = store_of(texts)
        fresh.build("main")
        for name in ("base", "low", "high", "main"):
            self.assertEqual(self.store.artifact(name), fresh.artifact(name))
        self.assertEqual(self.store.build(main), [])

    def test_remarks(self):
        self.check_change(lambda text: "; a remark\n" + text.replace(" ", "  "), ("base", "text", None))

    def test_another_number_in_a_def(self):
        self.check_change(lambda text: text.replace("(def n 1)", "(def n 2)"),
                          ("base", "text", None), ("high", "interface", "base"), ("main", "interface", "base"))

    def test_another_number_in_a_procedure(self):
        self.check_change(lambda text: text.replace("(list x n)", "(list 5 n)"),
                          ("base", "text", None), ("high", "interface", "base"), ("main", "interface", "base"))

    def test_another_template(self):
        self.check_change(lambda text: text.replace("(list a n)", "(list n a)"),
                          ("base", "text", None), ("high", "interface", "base"), ("low", "interface", "base"), ("main", "interface", "base"))

    def test_one_use_more(self):
        self.check_change(lambda text: text + " (use alone)", ("alone", "new", None), ("base", "text", None),
                          ("high", "interface", "base"), ("low", "interface", "base"), ("main", "interface", "base"))

    def test_one_offer_less(self):
        self.store.build("main")
        self.store.put("base", self.TEXTS["base"].replace("(offer f m)", "(offer f)"))
        before = {name: self.store.artifact(name) for name in self.store.names()}
        at = spot(self.TEXTS["low"], "(m y)") + 1
        self.assertEqual(outcome(self.store.build, "main"), ("ExpandError", "unbound", ("low", at)))
        self.assertEqual({name: self.store.artifact(name) for name in self.store.names()}, before)
        self.store.put("base", self.TEXTS["base"])
        self.assertEqual(self.store.build("main"), [])

    def test_notes(self):
        # main makes ready base, low, base for 1, high; they are asked from the last one on.
        self.store.build("main")
        self.assertEqual(self.store.compiled("main").ready(), [("base", 0), ("low", 0), ("base", 1), ("high", 0)])
        for name in ("high", "low"):
            self.store.put(name, self.TEXTS[name].replace("(offer", "(def more 1) (offer"))
        self.assertEqual(self.store.build("main"), [("high", "text", None), ("low", "text", None), ("main", "interface", "high")])
        # Without a new offer it is the next note that differs.
        self.store.put("low", self.TEXTS["low"])
        self.assertEqual(self.store.build("main"), [("low", "text", None), ("main", "interface", "low")])

    def test_dropped_modules(self):
        self.store.build("main")
        self.store.drop("high")
        self.assertEqual(outcome(self.store.build, "main"), ("ExpandError", "module", ("main", 3)))
        self.store.put("main", "(use low) (g 1)")
        self.assertEqual(self.store.build("main"), [("main", "text", None)])
        # A module that is not used any more is not made sure of.
        self.store.put("high", "(")
        self.assertEqual(self.store.build("main"), [])
        self.store.drop("base")
        self.assertEqual(outcome(self.store.build, "main"), ("ExpandError", "module", ("low", 2)))
        self.store.put("base", self.TEXTS["base"])
        self.assertEqual(self.store.build("main"), [("base", "new", None)])

    def test_without_the_text_of_a_noted_module(self):
        texts = {"a": "(defmac m (rules () ((_ n) (use n)))) (offer m)", "b": "(use a) (m c) 1", "c": "1"}
        store = store_of(texts)
        store.build("b")
        store.drop("c")
        self.assertEqual(outcome(store.build, "b"), ("ExpandError", "module", ("b", 5)))
        store.put("a", texts["a"].replace("(use n)", "5"))
        self.assertEqual(store.build("b"), [("a", "text", None), ("b", "interface", "c")])

    def test_errors_leave_the_store_as_it_was(self):
        self.store.build("low")
        before = self.store.artifact("base")
        self.store.put("base", self.TEXTS["base"].replace("(def n 1)", "(def n 2)"))
        self.store.put("high", "(list nope)")
        self.assertEqual(outcome(self.store.build, "main"), ("ExpandError", "unbound", ("high", 2)))
        self.assertEqual(self.store.artifact("base"), before)
        self.assertIsNone(self.store.artifact("high"))
        self.assertEqual(self.store.run("low", 10), [])
        self.store.put("high", "(")
        self.assertEqual(outcome(self.store.build, "main"), ("ReadError", 1))
        self.assertEqual(self.store.build("base"), [("base", "text", None)])

    def test_cycles(self):
        store = store_of({"a": "(use b)", "b": "(up (use c))", "c": "(use (only d))", "d": "(use b)", "e": "(use e)", "f": "(use a)"})
        self.assertEqual(outcome(store.build, "a"), ("ModuleError", "cycle", ("b", "c", "d")))
        self.assertEqual(outcome(store.build, "f"), ("ModuleError", "cycle", ("b", "c", "d")))
        self.assertEqual(outcome(store.build, "c"), ("ModuleError", "cycle", ("c", "d", "b")))
        self.assertEqual(outcome(store.build, "e"), ("ExpandError", "module", ("e", 2)))
        # What has ended is no part of a cycle.
        ended = store_of({"a": "(use x) (use b)", "x": "(use y)", "y": "1", "b": "(use y x a)"})
        self.assertEqual(outcome(ended.build, "a"), ("ModuleError", "cycle", ("a", "b")))
        store.put("d", "1")
        self.assertEqual([row[0] for row in store.build("f")], ["d", "c", "b", "a", "f"])
        # A cycle that comes by a change is met when notes are asked.
        store.put("d", "(use a)")
        cycle = ("ModuleError", "cycle", ("a", "b", "c", "d"))
        self.assertEqual(outcome(store.build, "a"), cycle)
        self.assertEqual(build_anew({name: store.text(name) for name in store.names()}, "a")[0], cycle)

    def test_long_chains(self):
        texts = {"m0": "(def x 1) (up (up (def y 2))) (offer x)"}
        for number in range(1, 12):
            texts[f"m{number}"] = f"(up (up (up (use m{number - 1})))) (use m{number - 1}) (offer x) " + "(let () " * 39 + "x" + ")" * 39
        store = store_of(texts)
        self.assertEqual([row[0] for row in store.build("m11")], [f"m{number}" for number in range(12)])
        self.assertEqual(store.build("m11"), [])
        store.put("m0", "(list nope)")
        self.assertEqual(outcome(store.build, "m11"), ("ExpandError", "unbound", ("m0", 2)))
        store.put("m0", texts["m0"] + "; the same")
        self.assertEqual(store.build("m11"), [("m0", "text", None)])

    def test_what_is_not_needed_any_more_may_be_wrong(self):
        # b used c by a macro of a; now it does not, and c does not compile: a new store would not see that.
        texts = {"a": "(defmac m (rules () ((_ n) (use n)))) (offer m)", "b": "(use a) (m c) 1", "c": "(def x 1)", "d": "(use b)"}
        for wrong in ("nope", "(", "(use b)", "(use d)"):
            store = store_of(texts)
            store.build("d")
            store.put("c", wrong)
            self.assertEqual(outcome(store.build, "d")[0], "ReadError" if wrong == "(" else
                             "ExpandError" if wrong == "nope" else "ModuleError")
            store.put("a", texts["a"].replace("(use n)", "5"))
            told = {name: store.text(name) for name in store.names()}
            self.assertEqual(store.build("d"), [("a", "text", None), ("b", "interface", "c"), ("d", "interface", "b")])
            fresh, artifacts = build_anew(told, "d")
            self.assertEqual(fresh[0], "gives")
            for name in ("a", "b", "d"):
                self.assertEqual(store.artifact(name), artifacts[name])
            self.assertEqual(store.build("d"), [])


class TestAgainstNewStores(StoreCase):
    """Whatever was changed in between, a building gives what that of a new store gives (point 57)."""

    def variants(self):
        """For each module some texts: those of the samples, and others."""
        texts = {}
        for name, text in SAMPLES.items():
            texts[name] = [text, "; changed\n" + text, text.replace("10", "11").replace(" 5", " 6"), text.replace("list", "+", 1)]
        texts["count"].append(SAMPLES["count"].replace("(offer bump", "(def more 1) (offer more bump"))
        texts["count"].append(SAMPLES["count"].replace("(use", "").replace("(offer", "(use swap) (offer"))
        texts["count"].append(SAMPLES["count"].replace("three)", "nope)"))
        texts["logic"].append(SAMPLES["logic"].replace("(let ((t e)) (if t t", "(let ((u e)) (if u u"))
        texts["logic"].append(SAMPLES["logic"].replace("(offer (all))", "(offer my-or)"))
        texts["logic"].append(SAMPLES["logic"] + "(use user)")
        texts["user"].append(SAMPLES["user"].replace("(use logic", "(use swap logic"))
        texts["user"].append(SAMPLES["user"].replace("(hidden 7)", ""))
        texts["swap"].append("(use count) (bump)")
        texts["swap"].append("(")
        texts["high"].append(SAMPLES["high"].replace("(use (only user bump!))", "(use user)"))
        return texts

    def step(self, rng, store, texts):
        """Change something."""
        name = rng.choice(list(texts))
        if name in store.names() and rng.random() < 0.15:
            store.drop(name)
        else:
            store.put(name, rng.choice(texts[name]) if rng.random() < 0.6 else texts[name][0])

    def test_random_changes(self):
        rng = seeded(12)
        texts = self.variants()
        told = {}
        for _ in range(12):
            store = store_of(SAMPLES)
            for _ in range(25):
                for _ in range(rng.choice([0, 1, 1, 2])):
                    self.step(rng, store, texts)
                main = rng.choice(["high", "high", "user", "count", "swap"])
                before = {name: store.artifact(name) for name in store.names()}
                now = {name: store.text(name) for name in store.names()}
                mine = outcome(store.build, main)
                fresh, artifacts = build_anew(now, main)
                self.assertEqual(mine[0] == "gives", fresh[0] == "gives")
                told[fresh[0]] = told.get(fresh[0], 0) + 1
                after = {name: store.artifact(name) for name in store.names()}
                if mine[0] != "gives":
                    self.assertEqual(after, before)
                    continue
                for name, artifact in artifacts.items():
                    if artifact is not None:
                        self.assertEqual(after[name], artifact)
                self.assertEqual(store.program(main), program(artifacts, main))
                self.assertEqual(outcome(store.run, main, 5000), outcome(run, artifacts, main, 5000))
                self.check_report(mine[1], before, after)
        self.assertGreater(told["gives"], 100)
        self.assertGreater(told["ExpandError"], 20)

    def check_report(self, report, before, after):
        self.assertEqual(len({name for name, _, _ in report}), len(report))
        named = [name for name, _, _ in report]
        for name in after:
            if name not in named:
                self.assertEqual(after[name], before[name])
        for name, reason, module in report:
            self.assertEqual(reason == "new", before[name] is None)
            self.assertEqual(reason == "interface", module is not None)


if __name__ == "__main__":
    unittest.main()
