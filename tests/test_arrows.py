"""Arrows, links, fixed occurrences, groups, and calling otherwise (points 48 to 52)."""

import unittest

from helper import artifacts_of, made_of, outcome, spot
from samples import SAMPLES
from wherewritten.arrows import all_arrows, all_fixed, all_links, group
from wherewritten.calling import called_otherwise, compile_all
from wherewritten.compiling import compile_module
from wherewritten.linking import program, run
from wherewritten.reading import offsets, spelled


class ArrowCase(unittest.TestCase):
    def check(self, text, *expected, artifacts=None):
        """The arrows of a module; each is written as the texts where its ends begin."""
        made = made_of(text, "m", artifacts)
        wanted = sorted((self.ends(text, use), self.ends(text, giver)) for use, giver in expected)
        self.assertEqual(made.arrows(), wanted, text)
        return made

    def ends(self, text, end):
        return end if isinstance(end, tuple) else ("m", spot(text, end))

    def places(self, text, *marks):
        return [("m", spot(text, mark)) for mark in marks]


class TestArrows(ArrowCase):
    def test_binders(self):
        self.check("(def x 1) (list x)", ("x)", "x 1"))
        self.check("(fn (x y) (list y x))", ("y x)", "y) ("), ("x))", "x y)"))
        self.check("(let ((x 1)) (let ((y x)) y))", ("x)) y", "x 1"), ("y))", "y x"))
        self.check("(letrec ((f (fn () (f)))) 1)", ("f))))", "f (fn"))
        self.check("(letmac ((m (rules () ((_) 1)))) (m))", ("m))", "m (rules"))
        self.check("(let () (def x 1) (defmac m 2) x)", ("x)", "x 1"))
        self.check("(def x 1) (set x 2)", ("x 2", "x 1"))

    def test_what_macros_make(self):
        text = "(def y 1) (defmac m (rules () ((_ a) (let ((t a)) (list t a y))))) (m y)"
        handed = ("m", spot(text, "(m y)") + 2)
        self.check(text, ("a)) (list", "a) (let"), ("a y", "a) (let"), ("m y", "m (rules"), ("t a y", "t a))"), ("y)))))", "y 1"),
                   (handed, "y 1"))

    def test_rules(self):
        # From variables in the template, and from literals of the pattern, also if nothing is made of them.
        self.check("(rules (k) ((k k a) (a k b)))", ("k a)", "k) ("), ("a k b", "a) (a"))
        self.check("(rules (k k) ((_ k) 1))", ("k) 1", "k k)"))
        self.check("(rules () ((a b) (... (b ...))))", ("b ...)))", "b) (... "))
        self.check("(rules () ((a b) (a b)))", ("b)))", "b) ("))
        self.check("(quote 1) #'(rules () ((_ a) a))")

    def test_match_and_fill(self):
        text = "(fn (s) (match s (k) ((a k) (fill (a k list nope)))))"
        self.check(text, ("s (k)", "s) ("), ("k) (fill", "k) ((a"), ("a k list", "a k) ("))

    def test_modules(self):
        artifacts = artifacts_of({"a": "(def x 1) (def y 2) (up (def x 3) (offer x)) (offer x y)"})
        x, y, high = ("a", 2), ("a", 6), ("a", 12)
        self.assertEqual([offer[3] for offer in artifacts["a"][3]], [high, x, y])
        self.check("(use a) (list x y)", ("x y", x), ("y)", y), artifacts=artifacts)
        self.check("(use (only a x)) x", ("x))", x), ("x))", high), (("m", 6), x), artifacts=artifacts)
        self.check("(use (except a y))", ("y)", y), artifacts=artifacts)
        self.check("(use (rename a (x z))) z", ("x z", x), ("x z", high), (("m", 8), "z))"), artifacts=artifacts)

    def test_offers(self):
        self.check("(def x 1) (offer x)", ("x)", "x 1"))
        self.check("(def x 1) (offer (as x y))", ("x y", "x 1"))
        self.check("(def x 1) (offer (all))")
        artifacts = artifacts_of({"a": "(def x 1) (offer (as x y))", "b": "(use a) (offer y)"})
        self.check("(use b) y", (("m", 3), ("a", 9)), artifacts=artifacts)

    def test_expanding_procedures(self):
        text = "(def x 1) (def z 2) (defmac m (fn (s) (match s () ((_ a b) (wrap (free=? a b) s))))) (m x z)"
        made = made_of(text)
        for mark, giver in (("x z)", "x 1"), ("z)", "z 2")):
            self.assertIn((("m", spot(text, mark)), ("m", spot(text, giver))), made.arrows())
        text = "(defmac n 1) (defmac m (fn (s) (match s () ((_ a) (do (local-value a) #'1))))) (m n)"
        self.assertIn((("m", spot(text, "(m n)") + 2), ("m", 2)), made_of(text).arrows())
        text = "(defmac m (rules (k) ((_ k) 1) ((_ a) 2))) (def x 1) (def k 2) (m x)"
        arrows = made_of(text).arrows()
        self.assertIn((("m", spot(text, "(m x)") + 2), ("m", spot(text, "x 1"))), arrows)
        self.assertIn((("m", spot(text, "k) ((")), ("m", spot(text, "k 2"))), arrows)

    def test_links(self):
        text = "(defmac m (rules (k) ((_ k) 1) ((_ a) 2))) (m k) (m l)"
        made = made_of(text)
        self.assertEqual(made.links(), [(("m", spot(text, "k) ((")), ("m", spot(text, "(m k)") + 2))])
        text = "(defmac m (fn (s) (match s () ((_ a b) (wrap (free=? a b) s))))) (m x x) (m x y) (m if if) (def z 1) (m z z)"
        at = spot(text, "(m x x)")
        self.assertEqual(made_of(text).links(), [(("m", at + 2), ("m", at + 3))])
        text = "(defmac m (fn (s) (match s () ((_ a b) (wrap (bound=? a b) s))))) (m x x) (m x y) (m if if) (def z 1) (m z z)"
        first, second, third = spot(text, "(m x x)"), spot(text, "(m if"), spot(text, "(m z")
        self.assertEqual(made_of(text).links(), [(("m", at + 2), ("m", at + 3)) for at in (first, second, third)])
        # An identifier is not linked with itself; bound=? may be asked while nothing is expanded.
        text = "(up (def s #'(x y x)) (def p (parts s)) (bound=? (first p) (first p)) (bound=? (first (rest (rest p))) (first p)))"
        at = spot(text, "(x y x)")
        self.assertEqual(made_of(text).links(), [(("m", at + 1), ("m", at + 3))])

    def test_fixed(self):
        artifacts = artifacts_of({"a": "(def x 1) (offer x)"})
        text = "(use a (only a x)) (def f (fn (y) (if y '2 (list #'z))))"
        made = made_of(text, "m", artifacts)
        marks = ("use", "a (only", "only", "a x", "def", "fn", "if", "list")
        signs = [("m", spot(text, mark) + 1) for mark in ("'2", "#'z")]
        self.assertEqual(made.fixed(), sorted(self.places(text, *marks) + signs))
        # What is not resolved is not fixed, though it is called like a word or a primitive.
        text = "(let ((if 1) (list 2)) (+ if list)) #'(list quote)"
        self.assertEqual(made_of(text).fixed(), sorted(self.places(text, "let", "+") + [("m", spot(text, "#'") + 1)]))
        text = "(def x 1) (offer (as x y)) (offer (all))"
        self.assertEqual(made_of(text).fixed(), sorted(self.places(text, "def", "offer (as", "as", "offer (all", "all")))
        # Signs in what is never expanded.
        text = "(defmac m (rules () ((_ a) 1))) (m ('x #'y))"
        self.assertEqual(made_of(text).fixed()[-2:], [("m", spot(text, "'x") + 1), ("m", spot(text, "#'y") + 1)])

    def test_occurrences_in_other_modules(self):
        source = "(def x 1) (defmac m (rules (k) ((_ k) (list x nope)) ((_ a) (let ((b a)) (list b x))))) (offer m)"
        artifacts = artifacts_of({"a": source})
        text = "(use a) (m (list 2))"
        made = made_of(text, "m", artifacts)
        places = {mark: ("a", spot(source, mark)) for mark in ("let", "b a", "list b", "b x", "x))")}
        m, handed = ("a", spot(source, "m (rules")), ("m", spot(text, "list 2"))
        self.assertEqual(made.fixed(), sorted([("m", 1), ("m", 2), handed, places["let"], places["list b"]]))
        self.assertEqual(made.arrows(), sorted([(("m", 4), m), (places["b x"], places["b a"]), (places["x))"], ("a", 2))]))
        # The literal is compared with an identifier only.
        self.assertEqual(made.tale(("a", spot(source, "k) ((_"))), [])
        told = made_of("(use a) (m list)", "m", artifacts).tale(("a", spot(source, "k) ((_")))
        self.assertEqual([row[2:] for row in told], [("unbound", None)])

    def test_rows_of_modules(self):
        made = compile_all(SAMPLES)
        for told, one in ((all_arrows, "arrows"), (all_links, "links"), (all_fixed, "fixed")):
            rows = [getattr(compiled, one)() for compiled in made]
            whole = told(made)
            self.assertEqual(whole, sorted({entry for row in rows for entry in row}))
            self.assertEqual(told([]), [])
            self.assertEqual(told(made[:1]), rows[0])
            for row in rows:
                self.assertEqual(row, sorted(set(row)))
        for use, giver in all_arrows(made):
            self.assertNotEqual(use, giver)
        for first, second in all_links(made):
            self.assertLess(first, second)


class TestGroups(ArrowCase):
    def group_of(self, text, mark, artifacts=None):
        return group([made_of(text, "m", artifacts)], ("m", spot(text, mark)))

    def test_groups(self):
        text = "(def x 1) (let ((y x)) (list x y))"
        places = self.places(text, "x 1", "x)) (list", "x y)")
        for mark in ("x 1", "x)) (list", "x y)"):
            self.assertEqual(self.group_of(text, mark), places)
        self.assertEqual(self.group_of(text, "y x"), self.places(text, "y x", "y)"))
        self.assertEqual(self.group_of("#'(a b)", "a"), [("m", 3)])

    def test_over_modules(self):
        texts = {"a": "(def x 1) (offer x)", "b": "(use (only a x)) x (offer (as x y))", "c": "(use b) y"}
        made = compile_all(texts)
        self.assertEqual(group(made, ("a", 2)), [("a", 2), ("a", 6), ("b", 5), ("b", 6), ("b", 11)])
        self.assertEqual(group(made, ("c", 3)), [("b", 12), ("c", 3)])

    def test_names_of_a_group(self):
        made = compile_all(SAMPLES)
        for name, text in SAMPLES.items():
            for place in spelled(text)[0]:
                words = set()
                for module, other in group(made, (name, place)):
                    names, _ = spelled(SAMPLES[module])
                    if other in names:
                        start, end = names[other]
                        words.add(SAMPLES[module][start:end])
                    else:
                        words.add({"'": "quote", "#": "syntax"}[SAMPLES[module][offsets(SAMPLES[module])[other]]])
                self.assertEqual(len(words), 1, (name, place, words))


class TestCalling(unittest.TestCase):
    def check(self, texts, occurrence, name, wanted):
        before = dict(texts)
        told = called_otherwise(texts, occurrence, name)
        self.assertEqual(told, wanted)
        self.assertEqual(texts, before)

    def check_refused(self, code, texts, occurrence, name):
        self.assertEqual(outcome(called_otherwise, texts, occurrence, name), ("StoreError", code), (texts, occurrence))

    def test_texts(self):
        self.check({"m": "(def x 1) (let ((y x)) (list x y))"}, ("m", 2), "z", {"m": "(def z 1) (let ((y z)) (list z y))"})
        self.check({"m": "; x\n(def  x 1)x ; x\n\"x\" #'x"}, ("m", 2), "a-long-name",
                   {"m": "; x\n(def  a-long-name 1)a-long-name ; x\n\"x\" #'x"})
        texts = {"a": "(def x 1) (offer x)", "b": "(use (only a x)) x (offer (as x y))", "c": "(use b) y"}
        self.check(texts, ("b", 6), "q", {"a": "(def q 1) (offer q)", "b": "(use (only a q)) q (offer (as q y))", "c": "(use b) y"})
        self.check(texts, ("c", 3), "q", {"a": texts["a"], "b": "(use (only a x)) x (offer (as x q))", "c": "(use b) q"})
        self.check({"m": "#'(a b a)"}, ("m", 3), "c", {"m": "#'(c b a)"})

    def test_a_name_that_stands_there(self):
        # Other bindings of the name do not meet.
        self.check({"m": "(def x 1) (let ((y x)) y)"}, ("m", 8), "x", {"m": "(def x 1) (let ((x x)) x)"})
        self.check({"m": "(def x 1) (fn (y) y)"}, ("m", 2), "y", {"m": "(def y 1) (fn (y) y)"})
        self.check({"m": "(def x 1) x"}, ("m", 2), "x", {"m": "(def x 1) x"})
        self.check({"m": "(def x 1) x"}, ("m", 2), "if", {"m": "(def if 1) if"})
        self.check_refused("changes", {"m": "(def x 1) (let ((y x)) (list x y))"}, ("m", 2), "y")
        self.check_refused("changes", {"m": "(def x 1) (def y x)"}, ("m", 2), "y")
        self.check_refused("changes", {"m": "(def x 1) (list x)"}, ("m", 2), "list")
        self.check_refused("changes", {"m": "(fn (x) (let ((y 1)) x))"}, ("m", 3), "y")
        self.check_refused("changes", {"m": "(def x 1) (def f (fn () (list x)))"}, ("m", 2), "def")
        text = "(defmac m (rules (k) ((_ k) 1) ((_ a) 2))) (m l)"
        self.check_refused("changes", {"m": text}, ("m", spot(text, "(m l)") + 2), "k")
        self.check_refused("changes", {"m": text}, ("m", spot(text, "(m l)") + 2), "m")
        self.check({"m": text}, ("m", spot(text, "(m l)") + 2), "a", {"m": text.replace("(m l)", "(m a)")})

    def test_refused(self):
        texts = {"m": "(def x 1) (list x '2)", "n": "\"x\" 5 (use m) #'x"}
        for occurrence in (("m", 0), ("m", 3), ("m", 7), ("m", 8), ("m", 9), ("m", 99), ("k", 2), ("n", 0), ("n", 1), ("n", 6)):
            self.check_refused("place", texts, occurrence, "z")
            self.check_refused("place", texts, occurrence, "A")
        for name in ("", "A", "1", "-1", "...", "_", "a b", "x" * 21, "quote)"):
            self.check_refused("name", texts, ("m", 2), name)
        for occurrence in (("m", 1), ("m", 5), ("n", 3), ("n", 4)):
            self.check_refused("fixed", texts, occurrence, "z")
        self.check_refused("fixed", {"m": "(quote 1)"}, ("m", 1), "z")
        self.check_refused("fixed", {"m": "(fn () (defmac m (rules () ((_ k) (if 1 k 2)))) (m 1))"}, ("m", 14), "z")

    def test_long(self):
        text = "(def x 1)" + " x" * 50
        text += "\n;" + "-" * (6000 - len(text) - 2 - 51)
        self.assertEqual(len(called_otherwise({"m": text}, ("m", 2), "xy")["m"]), 6000)
        self.check_refused("long", {"m": text + "-"}, ("m", 2), "xy")
        self.check_refused("fixed", {"m": text + "-"}, ("m", 1), "defdef")
        self.check_refused("long", {"m": text + "-"}, ("m", 2), "def")

    def test_texts_that_do_not_compile(self):
        texts = {"m": "(def x 1)", "n": "(list nope)"}
        self.assertEqual(outcome(called_otherwise, texts, ("m", 2), "z"), ("ExpandError", "unbound", ("n", 2)))
        self.check_refused("place", texts, ("m", 0), "z")
        self.check_refused("name", texts, ("m", 2), "Z")
        self.assertEqual(outcome(called_otherwise, {"m": "(def x 1)", "n": "("}, ("m", 2), "z"), ("ReadError", 1))
        self.assertEqual(outcome(called_otherwise, {"m": "(use n)", "n": "(use m)"}, ("m", 0), "z"), ("StoreError", "place"))
        self.assertEqual(outcome(called_otherwise, {"m": "(use n)", "n": "(use m)"}, ("m", 1), "z"),
                         ("ModuleError", "cycle", ("m", "n")))

    def test_texts_that_can_not_be_read(self):
        # No identifier is written out in them, wherever the token is that cannot stand there.
        for text in ("(def x", "(def x 1))", "(def x)" + " " * 6000, "(def x A)", "(def x \"", ") (def x 1)"):
            texts = {"m": text, "n": "nope"}
            for place in range(6):
                self.check_refused("place", texts, ("m", place), "z")
                self.check_refused("place", texts, ("m", place), "Z")
        # In others one is written out, and they meet the errors of reading these.
        texts = {"m": "(def x 1)", "n": "(def x"}
        self.check_refused("name", texts, ("m", 2), "Z")
        self.assertEqual(outcome(called_otherwise, texts, ("m", 2), "z"), ("ReadError", 6))

    def test_compile_all(self):
        self.assertEqual([made.artifact()[1] for made in compile_all({"b": "1", "c": "(use b a)", "a": "2"})], ["a", "b", "c"])
        self.assertEqual(compile_all({}), [])
        self.assertEqual(outcome(compile_all, {"a": "(use b)", "b": "nope", "c": "("}), ("ExpandError", "unbound", ("b", 0)))
        self.assertEqual(outcome(compile_all, {"a": "x", "b": "("}), ("ExpandError", "unbound", ("a", 0)))
        self.assertEqual(outcome(compile_all, {"a": "(use c)", "b": "(use b)"}), ("ExpandError", "module", ("a", 2)))
        self.assertEqual(outcome(compile_all, {"b": "(use b)"}), ("ExpandError", "module", ("b", 2)))
        self.assertEqual(outcome(compile_all, {"b": "(use c)", "c": "(use d)", "d": "(use c)"}), ("ModuleError", "cycle", ("c", "d")))
        texts = {f"m{number}": "1" for number in range(20)}
        self.assertEqual(len(compile_all(texts)), 20)
        for made, name in zip(compile_all(SAMPLES), sorted(SAMPLES)):
            artifacts = {other.artifact()[1]: other.artifact() for other in compile_all(SAMPLES)}
            del artifacts[name]
            self.assertEqual(made.artifact(), compile_module(name, SAMPLES[name], artifacts).artifact())


class TestNobodySeesNames(unittest.TestCase):
    """With a name that stands nowhere nothing changes but names (point 51)."""

    def told(self, texts):
        artifacts = {made.artifact()[1]: made.artifact() for made in compile_all(texts)}
        return {name: (program(artifacts, name), run(artifacts, name, 100000)) for name in texts}

    def check_module(self, name):
        texts = {name: SAMPLES[name]}
        while True:
            more = {other: SAMPLES[other] for text in texts.values() for other in SAMPLES if "(use" in text and other in text}
            if all(other in texts for other in more):
                break
            texts.update(more)
        before = self.told(texts)
        made = compile_all(texts)
        fixed = all_fixed(made)
        seen = set()
        for place in spelled(texts[name])[0]:
            if (name, place) in seen:
                continue
            members = group(made, (name, place))
            seen.update(members)
            if any(member in fixed for member in members):
                self.assertEqual(outcome(called_otherwise, texts, (name, place), "new-name"), ("StoreError", "fixed"))
                continue
            told = called_otherwise(texts, (name, place), "new-name")
            self.check_names(texts, told, members)
            self.assertEqual(self.told(told), before)

    def check_names(self, texts, told, members):
        """The texts have the new name at the places of the group, and are what they were besides."""
        for module in texts:
            old, new = spelled(texts[module])[0], spelled(told[module])[0]
            self.assertEqual(list(old), list(new))
            for place in old:
                was, now = texts[module][slice(*old[place])], told[module][slice(*new[place])]
                self.assertEqual(now, "new-name" if (module, place) in members else was)

    def test_swap(self):
        self.check_module("swap")

    def test_logic(self):
        self.check_module("logic")

    def test_count(self):
        self.check_module("count")

    def test_hygiene(self):
        self.check_module("hygiene")

    def test_matcher(self):
        self.check_module("matcher")

    def test_nested(self):
        self.check_module("nested")

    def test_tools(self):
        self.check_module("tools")

    def test_user(self):
        self.check_module("user")

    def test_high(self):
        self.check_module("high")


if __name__ == "__main__":
    unittest.main()
