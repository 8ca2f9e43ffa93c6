import unittest

from helper import never, outcome, same_name, seeded, syn, text_of
from wherewritten.errors import RulesError
from wherewritten.patterns import PatternMaker
from wherewritten.rules import Rules
from wherewritten.syntax import added, depth, is_dots, occurrence_of, size


def made(source):
    """The outcome of compiling rules: None, or the code and the place of the error."""
    result = outcome(Rules, syn(source))
    return None if result[0] == "gives" else (result[1], result[2][1])


def applied(source, use, same=same_name):
    """The text of what rules make of a use, or the code and the place of the error."""
    result = outcome(Rules(syn(source)).apply, syn(use, module="u"), same)
    return text_of(result[1]) if result[0] == "gives" else (result[1], result[2])


def one_clause(pattern, template, literals=""):
    return f"(rules ({literals}) ({pattern} {template}))"


def place_of(source, mark):
    """The place of the only datum that is written like a mark."""
    found = []
    left = [syn(source)]
    while left:
        part = left.pop()
        if part[0] == "list":
            left.extend(part[1])
        if text_of(part) == mark:
            found.append(occurrence_of(part)[1])
    (place,) = found
    return place


class TestForm(unittest.TestCase):
    def test_right_ones(self):
        for source in ["(rules ())", "(5 ())", "(rules (a a b))", "(rules () ((_) 1))", "(() () ((... a) a))",
                       "(rules (k) ((_ k) k) ((1 2) 3))", "(rules () ((_ a ... b) (a ... b)))"]:
            self.assertIsNone(made(source), source)

    def test_wrong_forms(self):
        for source, place in [
                ("x", 0), ("1", 0), ("()", 0), ("(rules)", 0), ("(rules x)", 2), ("(rules 1)", 2), ("(rules (a 1))", 2),
                ("(rules (a _))", 2), ("(rules ((a)))", 2), ("(rules (...))", 2), ("(rules () x)", 3), ("(rules () ())", 3),
                ("(rules () ((_)))", 3), ("(rules () ((_) 1 2))", 3), ("(rules () (x 1))", 4), ("(rules () (() 1))", 4),
                ("(rules () (1 1))", 4), ("(rules () ((_) 1) ((_)))", 7)]:
            with self.subTest(source):
                self.assertEqual(made(source), ("form", place))

    def test_the_first_of_several(self):
        self.assertEqual(made("(rules x y)"), ("form", 2))
        self.assertEqual(made("(rules (1) ())"), ("form", 2))
        self.assertEqual(made("(rules () ((_ a a) ...) ())"), ("double", 7))
        self.assertEqual(made("(rules () ((_ a) ...) ())"), ("dots", 7))
        self.assertEqual(made("(rules () ((_ a) a) x ((_ a a) a))"), ("form", 8))
        self.assertEqual(made("(rules () ((_ ... a a) ...))"), ("dots", 6))


class TestPatternErrors(unittest.TestCase):
    def test_double(self):
        self.assertEqual(made(one_clause("(_ a b a)", "1")), ("double", 8))
        self.assertEqual(made(one_clause("(_ a (b ((a))))", "1")), ("double", 11))
        self.assertEqual(made(one_clause("(_ (a ...) a)", "1")), ("double", 9))
        self.assertIsNone(made(one_clause("(a a b)", "1")))
        self.assertIsNone(made(one_clause("(_ k k _ _ 1 1)", "1", "k")))

    def test_literals_and_variables_are_told_by_their_sets(self):
        form = syn("(rules (k) ((_ k) k))")
        other = added(form[1][2], ("m", 0, 0))
        rules = Rules(("list", (form[1][0], form[1][1], other), form[2]))
        self.assertEqual(rules.variables(0), [(("m", 7), 0)])
        pattern = syn("(_ a)")
        both = ("list", (*pattern[1], added(pattern[1][1], ("m", 0, 0))), pattern[2])
        clause = ("list", (both, syn("1")), ("m", 0))
        rules = Rules(("list", (syn("rules"), syn("()"), clause), ("m", 0)))
        self.assertEqual(len(rules.variables(0)), 2)

    def test_dots(self):
        for pattern, place in [
                ("(_ ...)", 6), ("(_ ... a)", 6), ("(_ a ... ...)", 8), ("(_ a ... b ...)", 9), ("(_ (...))", 7),
                ("(_ a (b ... ...) c)", 10), ("(_ ... a ...)", 6), ("(_ a a ... ...)", 9), ("(_ a (...) a)", 8),
                ("(_ (a ... b ...) ... ...)", 12), ("(... ...)", 6), ("(... ... a)", 6)]:
            with self.subTest(pattern):
                self.assertEqual(made(one_clause(pattern, "1")), ("dots", place))
        self.assertIsNone(made(one_clause("(... a)", "1")))
        self.assertIsNone(made(one_clause("((... ...) a)", "1")))

    def test_dots_alone(self):
        maker = PatternMaker(())
        self.assertEqual(outcome(maker.made, syn("..."), 0), ("RulesError", "dots", ("m", 0)))

    def test_depth(self):
        self.assertIsNone(made(one_clause("(_ (((a ...) ...) ...) ...)", "1")))
        self.assertEqual(made(one_clause("(_ ((((a ...) ...) ...) ...) ...)", "1")), ("depth", 11))
        self.assertEqual(made(one_clause("(_ ((((b b 1 ...) ...) ...) ...) ...)", "1")), ("depth", 13))
        self.assertEqual(made(one_clause("(_ ((((a ... ...) ...) ...) ...) ...)", "1")), ("dots", 12))
        self.assertEqual(made(one_clause("(_ ((((... ...) ...) ...) ...) ...)", "1")), ("dots", 10))
        self.assertIsNone(made(one_clause("(_ (((a ...) ...) ...) ... (((b ...)) c))", "1")))

    def test_lists_ahead_of_their_parts(self):
        self.assertEqual(made(one_clause("(_ (...) b b)", "1")), ("dots", 7))
        self.assertEqual(made(one_clause("(_ b b (...))", "1")), ("double", 7))
        self.assertEqual(made(one_clause("(_ b b c ... ...)", "1")), ("dots", 10))


class TestTemplateErrors(unittest.TestCase):
    def test_depth(self):
        for pattern, template in [
                ("(_ a ...)", "A"), ("(_ a ...)", "(1 A)"), ("(_ a ...)", "((A ...) ...)"), ("(_ a ...)", "(A ... ...)"),
                ("(_ (a ...) ...)", "(A ...)"), ("(_ (a ...) ...)", "A"), ("(_ a ...)", "(... (A ...))"),
                ("(_ (a ...) b ...)", "((b A ...) ...)"), ("(_ a ...)", "(... A)"), ("(_ a ...)", "(f (A) 1 ...)")]:
            with self.subTest(template):
                source = one_clause(pattern, template)
                place = place_of(source.replace("A", "zz"), "zz")
                self.assertEqual(made(source.replace("A", "a")), ("depth", place))

    def test_right_ones(self):
        for pattern, template in [
                ("(_ a)", "(a a)"), ("(_ a b ...)", "((a b) ...)"), ("(_ a b ...)", "((b a a) ...)"), ("(_)", "(... ...)"),
                ("(_ a)", "(... (a ... ...))"), ("(_ a ...)", "((... (a ...)) ...)"), ("(_ (a ...) ...)", "(a ... ...)"),
                ("(_ (a ...) ...)", "((a ...) ...)"), ("(_)", "_"), ("(_)", "(... (... ...))"), ("(_)", "(... (... a b))"),
                ("(_ a ...)", "((... a) ...)"), ("(_ ((((a ...) ...) ...)) ...)", "(a ... ... ... ...)")]:
            self.assertIsNone(made(one_clause(pattern, template)), template)

    def test_dots(self):
        for template, place in [
                ("...", 8), ("(...)", 9), ("(... 1 2)", 9), ("(1 ...)", 10), ("(a ...)", 10), ("(a ... ...)", 10),
                ("((1) ... 2)", 11), ("(f () ...)", 11), ("(1 (... a a))", 11), ("((... ...) ...)", 12), ("((... a) ...)", 12),
                ("((f a) ... b ...)", 12), ("(... (b ...))", 12), ("(f (...) b)", 11)]:
            with self.subTest(template):
                source = one_clause("(_ a b ...)", template)
                found = made(source)
                if template == "(... (b ...))":
                    self.assertEqual(found[0], "depth")
                else:
                    self.assertEqual(found, ("dots", place + 1))

    def test_the_first_of_several(self):
        self.assertEqual(made(one_clause("(_ b ...)", "(b 1 ...)")), ("depth", 9))
        self.assertEqual(made(one_clause("(_ b ...)", "(1 ... b)")), ("dots", 10))
        self.assertEqual(made(one_clause("(_ b ...)", "((1 ... b) ...)")), ("dots", 11))
        self.assertEqual(made(one_clause("(_ b ...)", "((f b) ... ...)")), ("depth", 11))
        self.assertEqual(made(one_clause("(_ b ...)", "(b ... ... 1 ...)")), ("depth", 9))


class TestMatching(unittest.TestCase):
    def index(self, clauses, use, literals="", same=never):
        rules = Rules(syn("(rules (" + literals + ") " + " ".join(f"({clause} 0)" for clause in clauses) + ")"))
        return rules.clause_of(syn(use, module="u"), same)

    def fits(self, pattern, use, literals="", same=never):
        told = self.index([pattern], use, literals, same)
        self.assertIn(told, (0, None))
        return told == 0

    def test_each_kind(self):
        for pattern, use, told in [
                ("(_ _)", "(m x)", True), ("(_ _)", "(m (1 2))", True), ("(_ _)", "(m)", False), ("(_ _)", "(m 1 2)", False),
                ("(_ a)", "(m ...)", True), ("(_ a)", "(m ())", True), ("(x)", "(y)", True), ("(1)", "(2)", True),
                ("(_ 1)", "(m 1)", True), ("(_ 1)", "(m 2)", False), ("(_ 1)", "(m #t)", False), ("(_ #t)", "(m 1)", False),
                ("(_ #f)", "(m 0)", False), ("(_ #t)", "(m #t)", True), ("(_ #t)", "(m #f)", False),
                ("(_ \"1\")", "(m 1)", False), ("(_ \"1\")", "(m \"1\")", True), ("(_ \"1\")", "(m (\"1\"))", False),
                ("(_ 1)", "(m x)", False), ("(_ 1)", "(m _)", False), ("(_ \"_\")", "(m _)", False),
                ("(_ ())", "(m ())", True), ("(_ ())", "(m x)", False), ("(_ ())", "(m (1))", False), ("(_ (a))", "(m 1)", False),
                ("(_ a ...)", "(m)", True), ("(_ a ...)", "(m 1 2 3)", True), ("(_ 1 ...)", "(m 1 1 2)", False),
                ("(_ 1 ... 2)", "(m 1 1 2)", True), ("(_ 1 ... 2)", "(m 2)", True), ("(_ 1 ... 2)", "(m)", False),
                ("(_ 3 1 ... 2 2)", "(m 3 2)", False), ("(_ 3 1 ... 2 2)", "(m 3 2 2)", True),
                ("(_ 3 1 ... 2 2)", "(m 3 1 2 2)", True), ("(_ (a ...) ...)", "(m () (1) (2 3))", True),
                ("(_ (a ...) ...)", "(m () 1)", False), ("(_ a ...)", "x", False), ("(_ a ...)", "()", False),
                ("(_ a ...)", "5", False), ("(_)", "(1)", True), ("(_ k)", "(m 1)", False), ("(_ k)", "(m (k))", False)]:
            with self.subTest(pattern=pattern, use=use):
                self.assertIs(self.fits(pattern, use, "k"), told)

    def test_literals(self):
        self.assertTrue(self.fits("(_ k)", "(m k)", "k", same_name))
        self.assertFalse(self.fits("(_ k)", "(m j)", "k", same_name))
        self.assertTrue(self.fits("(_ k ...)", "(m k k)", "k", same_name))
        self.assertTrue(self.fits("(_ k)", "(m j)", "k", lambda one, other: True))

    def test_the_first_clause_counts(self):
        clauses = ["(_ 1)", "(_ a)", "(_ 2)", "(_ a ...)"]
        self.assertEqual(self.index(clauses, "(m 1)"), 0)
        self.assertEqual(self.index(clauses, "(m 2)"), 1)
        self.assertEqual(self.index(clauses, "(m)"), 3)
        self.assertEqual(self.index(clauses, "(m 1 2)"), 3)
        self.assertIsNone(self.index(clauses[:3], "(m)"))
        self.assertIsNone(self.index([], "(m)"))

    def asked(self, source, use, answers=None):
        """The names and places of what the function is asked for."""
        told = []

        def same(literal, identifier):
            told.append((literal[1], literal[2], identifier[1], identifier[2]))
            return same_name(literal, identifier) if answers is None else answers[len(told) - 1]

        result = outcome(Rules(syn(source)).clause_of, syn(use, module="u"), same)
        return [(one, two[1], three, four[1]) for one, two, three, four in told], result

    def test_what_is_asked(self):
        source = "(rules (k j k) ((_ k j) 1) ((_ k (j k) ...) 2) ((_ a ...) 3))"
        self.assertEqual(self.asked(source, "(m 1)"), ([], ("gives", 2)))
        self.assertEqual(self.asked(source, "(m k j)"), ([("k", 3, "k", 2), ("j", 4, "j", 3)], ("gives", 0)))
        self.assertEqual(self.asked(source, "(m j k)"), ([("k", 3, "j", 2), ("k", 3, "j", 2)], ("gives", 2)))
        self.assertEqual(
            self.asked(source, "(m k (j k) (k k) (j j))"),
            ([("k", 3, "k", 2), ("j", 4, "j", 4), ("k", 3, "k", 5), ("j", 4, "k", 7)], ("gives", 2)))
        self.assertEqual(
            self.asked(source, "(m k (j k) (j k 1))"),
            ([("k", 3, "k", 2), ("j", 4, "j", 4), ("k", 3, "k", 5)], ("gives", 2)))

    def test_parts_behind_dots_are_asked_for_last(self):
        source = "(rules (k j i) ((_ k j ... i i) 1))"
        asked, result = self.asked(source, "(m k j j i i)")
        self.assertEqual([(one, place) for one, _, _, place in asked], [("k", 2), ("j", 3), ("j", 4), ("i", 5), ("i", 6)])
        self.assertEqual(result, ("gives", 0))
        asked, result = self.asked(source, "(m k j x i i)")
        self.assertEqual([place for _, _, _, place in asked], [2, 3, 4])
        self.assertEqual(result, ("gives", None))
        self.assertEqual(self.asked(source, "(m k i)")[0], [])

    def test_ambiguous(self):
        source = "(rules (k) ((_ (k a) ...) 1) ((_ a ...) 2))"
        asked, result = self.asked(source, "(m (k 1) (k 2) 3)", [True, None])
        self.assertEqual(len(asked), 2)
        self.assertEqual(result, ("RulesError", "ambiguous", ("u", 6)))
        self.assertEqual(self.asked(source, "(m (j 1) (k 2) 3)", [False])[1], ("gives", 1))

    def test_apply_asks_once(self):
        told = []

        def same(literal, identifier):
            told.append(identifier[2])
            return True

        Rules(syn("(rules (k) ((_ k ... k) (k k)))")).apply(syn("(m a b c)"), same)
        self.assertEqual(told, [("m", 2), ("m", 3), ("m", 4)])


class TestVariables(unittest.TestCase):
    def test_variables(self):
        rules = Rules(syn("(rules (k) ((a a (b k ((c ...) d) ...) _ 1 e) 0) ((_) 0))"))
        self.assertEqual(rules.variables(0), [(("m", place), deep) for place, deep in
                                              [(7, 0), (9, 0), (13, 2), (15, 1), (19, 0)]])
        self.assertEqual(rules.variables(1), [])
        self.assertIsNot(rules.variables(0), rules.variables(0))

    def test_inserted(self):
        rules = Rules(syn("(rules (k) ((_ a b ...) (x a (b y a) ... (... (x ... a)) k _ 1)) ((_ z) z))"))
        self.assertEqual(rules.inserted(0), [("m", place) for place in [11, 15, 21, 24]])
        self.assertEqual(rules.inserted(1), [])
        self.assertIsNot(rules.inserted(0), rules.inserted(0))


class TestFilling(unittest.TestCase):
    def test_example(self):
        self.assertEqual(applied("(rules () ((_ (a b ...) ...) (do (b ... a) ...)))", "(m (1 2 3) (4))"),
                         "(do (2 3 1) (4))")

    def test_ordinary_ones(self):
        for pattern, template, use, result in [
                ("(_ a b)", "(b a a)", "(m 1 (2))", "((2) 1 1)"), ("(_ a)", "a", "(m x)", "x"), ("(_)", "()", "(m)", "()"),
                ("(_ a ...)", "(f a ... g)", "(m 1 2)", "(f 1 2 g)"), ("(_ a ...)", "(f a ... g)", "(m)", "(f g)"),
                ("(_ (a ...) ...)", "(a ... ...)", "(m (1 2) () (3))", "(1 2 3)"),
                ("(_ (a ...) ...)", "((0 a ...) ...)", "(m (1 2) () (3))", "((0 1 2) (0) (0 3))"),
                ("(_ (a b ...) ...)", "((b ... a) ... (a ...))", "(m (1 2 3) (4))", "((2 3 1) (4) (1 4))"),
                ("(_ c (a ...) ...)", "((a c) ... ...)", "(m x (1 2) (3))", "((1 x) (2 x) (3 x))"),
                ("(_ c a ...)", "((a c ) ... c)", "(m x 1 2)", "((1 x) (2 x) x)"),
                ("(_ a ... b)", "(b a ...)", "(m 1 2 3)", "(3 1 2)"), ("(_ a)", "(... ...)", "(m 1)", "..."),
                ("(_ a)", "(... (a ... (... a) ...))", "(m 1)", "(1 ... (... 1) ...)"),
                ("(_ a ...)", "((... (a ...)) ...)", "(m 1 2)", "((1 ...) (2 ...))"),
                ("(_ a ...)", "((... a) ...)", "(m 1 2)", "(1 2)"),
                ("(_ (((a ...) ...) ...) ...)", "(a ... ... ... ...)", "(m (((1 2) ()) ()) () (((3))))", "(1 2 3)"),
                ("(_ (((a ...) ...) ...) ...)", "(((a ... ...) ...) ...)", "(m (((1 2) (4)) ()) () (((3))))",
                 "(((1 2 4) ()) () ((3)))"),
                ("(_ _ a)", "(_ a)", "(m 1 ...)", "(_ ...)"), ("(_ a ...)", "(x (a _ 5 \"t\" #f) ...)", "(m 1 _)",
                                                             "(x (1 _ 5 \"t\" #f) (_ _ 5 \"t\" #f))")]:
            with self.subTest(pattern=pattern, template=template):
                self.assertEqual(applied(one_clause(pattern, template), use), result)

    def test_occurrences_and_sets_stay(self):
        rules = Rules(syn("(rules () ((_ a ...) (f (a g 1) ...)))", (("m", 0, 0),)))
        use = syn("(m x (y))", (("u", 0, 0),), "u")
        made_of = rules.apply(use, never)
        f = ("id", "f", ("m", 9), (("m", 0, 0),))
        g = ("id", "g", ("m", 12), (("m", 0, 0),))
        one = ("atom", "number", 1, ("m", 13))
        copies = [("list", (part, g, one), ("m", 10)) for part in use[1][1:]]
        self.assertEqual(made_of, ("list", (f, *copies), ("m", 8)))

    def test_nothing_is_changed(self):
        rules = Rules(syn("(rules () ((_ a ...) (a ... a ...)))"))
        self.assertEqual(text_of(rules.apply(syn("(m 1 2)"), never)), "(1 2 1 2)")
        self.assertEqual(text_of(rules.apply(syn("(m 3)"), never)), "(3 3)")

    def test_match(self):
        self.assertEqual(applied("(rules () ((_ 1) 1))", "(m 2)"), ("match", ("u", 0)))
        self.assertEqual(applied("(rules ())", "x"), ("match", ("u", 0)))
        self.assertEqual(applied("(rules () ((_) 1))", "7"), ("match", ("u", 0)))
        self.assertEqual(applied("(rules () ((_) 1))", "()"), ("match", ("u", 0)))


class TestLengths(unittest.TestCase):
    def lengths(self, pattern, template, use):
        """The result, or which of the dots of the template the error names, from 0 on."""
        source = one_clause(pattern, template)
        result = applied(source, use)
        if isinstance(result, str):
            return result
        code, (module, place) = result
        self.assertEqual((code, module), ("lengths", "m"))
        clause = syn(source)[1][2]
        dots = []
        left = [clause[1][1]]
        while left:
            part = left.pop()
            if is_dots(part):
                dots.append(occurrence_of(part)[1])
            elif part[0] == "list":
                left.extend(part[1])
        return sorted(dots).index(place)

    def test_unequal_ones(self):
        pattern = "(_ (a ...) (b ...) (c ...))"
        self.assertEqual(self.lengths(pattern, "((a b) ...)", "(m (1 2) (3 4) ())"), "((1 3) (2 4))")
        self.assertEqual(self.lengths(pattern, "((a b) ...)", "(m (1 2) (3) ())"), 0)
        self.assertEqual(self.lengths(pattern, "((a b) ...)", "(m () (3) ())"), 0)
        self.assertEqual(self.lengths(pattern, "(a ... b ... c ...)", "(m (1 2) (3) ())"), "(1 2 3)")
        self.assertEqual(self.lengths(pattern, "(a ... (b a) ... (c a) ...)", "(m (1 2) (3) ())"), 1)
        self.assertEqual(self.lengths(pattern, "((x (c a) ...) (b a) ...)", "(m (1 2) (3) ())"), 0)

    def test_dots_within_dots(self):
        pattern = "(_ ((a ...) ...) ((b ...) ...))"
        self.assertEqual(self.lengths(pattern, "((a b) ... ...)", "(m ((1) (2 3)) ((4) (5 6)))"), "((1 4) (2 5) (3 6))")
        self.assertEqual(self.lengths(pattern, "((a b) ... ...)", "(m ((1) (2 3)) ((4) (5)))"), 0)
        self.assertEqual(self.lengths(pattern, "((a b) ... ...)", "(m ((1)) ((4) (5)))"), 0)
        self.assertEqual(self.lengths(pattern, "(((a b) ...) ...)", "(m ((1)) ((4) (5)))"), 1)
        self.assertEqual(self.lengths(pattern, "(((a b) ...) ...)", "(m ((1) (2 3)) ((4) (5)))"), 0)
        self.assertEqual(self.lengths(pattern, "(((a ... b ...) ...))", "(m ((1) (2 3)) ((4) (5)))"),
                         "(((1 4) (2 3 5)))")

    def test_not_looked_for_without_copies(self):
        pattern = "(_ (x ...) ((a ...) ...) ((b ...) ...))"
        self.assertEqual(self.lengths(pattern, "((x (a b) ... ) ... )".replace("x", "0"), "(m () () ())"), "()")
        self.assertEqual(self.lengths(pattern, "(((a b) ...) ...)", "(m () () ())"), "()")

    def test_copies_one_after_the_other(self):
        pattern = "(_ ((a ...) (b ...) (c ...)) ...)"
        template = "(((a c) ... | (a b) ...) ...)".replace("| ", "")
        self.assertEqual(self.lengths(pattern, template, "(m ((1) (2) (3)) ((1) () (2)) ((1) (2) ()))"), 1)
        self.assertEqual(self.lengths(pattern, template, "(m ((1) (2) (3)) ((1) (2) ()) ((1) () (2)))"), 0)
        self.assertEqual(self.lengths(pattern, template, "(m ((1) () (3)) ((1) (2) ()))"), 1)


class TestSize(unittest.TestCase):
    def wide(self, many, module="u"):
        """A list of a size."""
        return ("list", tuple([("atom", "number", 1, (module, 1 + at)) for at in range(many - 1)]), (module, 0))

    def use(self, *parts):
        return ("list", (syn("m"), *parts), ("u", 5000))

    def test_size(self):
        size_error = ("RulesError", "size", ("u", 5000))
        rules = Rules(syn("(rules () ((_ a b ...) (b ... a)))"))
        self.assertEqual(size(rules.apply(self.use(syn("(1)"), *self.wide(2998)[1]), never)), 3000)
        self.assertEqual(outcome(rules.apply, self.use(syn("(1)"), *self.wide(2999)[1]), never), size_error)
        rules = Rules(syn("(rules () ((_ a) a))"))
        self.assertEqual(rules.apply(self.use(self.wide(3000)), never), self.wide(3000))
        self.assertEqual(outcome(rules.apply, self.use(self.wide(3001)), never), size_error)
        for many, result in [(3000, ("gives", self.wide(3000, "m"))), (3001, size_error)]:
            clause = ("list", (syn("(_)"), self.wide(many, "m")), ("m", 0))
            rules = Rules(("list", (syn("rules"), syn("()"), clause), ("m", 0)))
            self.assertEqual(outcome(rules.apply, self.use(), never), result)

    def deep(self, many):
        syntax = syn("x")
        for _ in range(many):
            syntax = ("list", (syntax,), ("u", 9))
        return syntax

    def test_depth(self):
        rules = Rules(syn("(rules () ((_ a) ((a))))"))
        for many in [97, 98]:
            use = ("list", (syn("m"), self.deep(many)), ("u", 1))
            self.assertEqual(depth(rules.apply(use, never)), many + 2)
        use = ("list", (syn("m"), self.deep(99)), ("u", 1))
        self.assertEqual(outcome(rules.apply, use, never), ("RulesError", "size", ("u", 1)))
        template = self.deep(100)
        form = ("list", (syn("rules"), syn("()"), ("list", (syn("(_)"), template), ("m", 0))), ("m", 0))
        self.assertEqual(Rules(form).apply(syn("(m)"), never), template)
        form = ("list", (syn("rules"), syn("()"), ("list", (syn("(_)"), self.deep(101)), ("m", 0))), ("m", 0))
        self.assertEqual(outcome(Rules(form).apply, syn("(m)", module="u"), never), ("RulesError", "size", ("u", 0)))
        for many, code in [(100, "gives"), (101, "RulesError")]:
            template = ("list", (), ("m", 9))
            for _ in range(many - 1):
                template = ("list", (template,), ("m", 9))
            form = ("list", (syn("rules"), syn("()"), ("list", (syn("(_)"), template), ("m", 0))), ("m", 0))
            self.assertEqual(outcome(Rules(form).apply, syn("(m)"), never)[0], code)

    def test_results_that_nobody_can_make(self):
        big = "(" + "1 " * 1000 + ")"
        source = "(rules () ((_ a b ...) ((" + "a " * 1000 + "b) ...)))"
        self.assertEqual(applied(source, "(m " + big + " x" * 1000 + ")"), ("size", ("u", 0)))
        source = "(rules () ((_ a (((b ...) ...) ...) ...) (((((a b) ...) ...) ... " + "a " * 900 + ") ...)))"
        use = "(m (" + "1 " * 900 + ")" + " (((1 2 3) (4 5)) ((6) (7)))" * 60 + ")"
        self.assertEqual(applied(source, use), ("size", ("u", 0)))

    def test_many_dots_in_a_result_that_is_too_large(self):
        source = "(rules () ((_ (b ...) ...) ((" + "b ... " * 450 + ") ...)))"
        self.assertEqual(applied(source, "(m" + " (1)" * 1400 + ")"), ("size", ("u", 0)))

    def test_lengths_ahead_of_size(self):
        big = "(" + "1 " * 2000 + ")"
        source = "(rules () ((_ a (b ...) (c ...)) (a a a (b c) ...)))"
        self.assertEqual(applied(source, f"(m {big} (1) (2 3))")[0], "lengths")
        self.assertEqual(applied(source, f"(m {big} (1) (2))"), ("size", ("u", 0)))
        source = "(rules () ((_ a ((b ...) (c ...)) ...) ((a a ((b c) ...)) ...)))"
        self.assertEqual(applied(source, f"(m {big} ((1) (2)) ((1) (2)) ((1) ()))")[0], "lengths")
        source = "(rules () ((_ a ((b ...) (c ...)) ...) (a a (b c) ... ...)))"
        self.assertEqual(applied(source, f"(m {big} ((1) (2)) ((1) (2)) ((1) ()))")[0], "lengths")
        self.assertEqual(applied(source, f"(m {big} ((1) (2)) ((1) (2)) ((1) (3)))"), ("size", ("u", 0)))

    def test_other_errors_ahead_of_size(self):
        use = self.use(self.wide(4000), syn("k"))
        for source, same, code in [("(rules () ((_ a 1) a))", never, "match"), ("(rules () ((_ a _) a))", never, "size"),
                                   ("(rules (k) ((_ a k) a))", lambda one, other: None, "ambiguous")]:
            self.assertEqual(outcome(Rules(syn(source)).apply, use, same)[1], code)


# The rules of the document once more, in the plainest way, without any compiling.

def key(identifier):
    return (identifier[1], identifier[3])


class Plain:
    def __init__(self, pattern, template, literals):
        self.literals = {}
        for literal in literals:
            self.literals.setdefault(key(literal), literal)
        self.depths = {}
        self.check_parts(pattern[1][1:], 0)
        self.check_template(template, 0, False)
        self.parts = pattern[1][1:]
        self.template = template

    def check_parts(self, parts, deep):
        seen = False
        for at, part in enumerate(parts):
            if is_dots(part):
                if at == 0 or seen:
                    raise RulesError("dots", occurrence_of(part))
                seen = True
        for at, part in enumerate(parts):
            if is_dots(part) and deep + 1 > 4:
                raise RulesError("depth", occurrence_of(part))
        for at, part in enumerate(parts):
            if not is_dots(part):
                self.check_pattern(part, deep + (at + 1 < len(parts) and is_dots(parts[at + 1])))

    def check_pattern(self, part, deep):
        if part[0] == "list":
            self.check_parts(part[1], deep)
        elif part[0] == "id" and key(part) not in self.literals:
            if key(part) in self.depths:
                raise RulesError("double", part[2])
            self.depths[key(part)] = deep

    def repeated(self, part):
        """The variables of a depth of at least 1 in a part."""
        if part[0] == "id":
            return [key(part)] if self.depths.get(key(part), 0) > 0 else []
        return [one for inner in part[1] for one in self.repeated(inner)] if part[0] == "list" else []

    def check_template(self, part, around, plainly):
        if part[0] == "id":
            if self.depths.get(key(part), 0) not in (0, around):
                raise RulesError("depth", part[2])
        elif is_dots(part) and not plainly:
            raise RulesError("dots", occurrence_of(part))
        elif part[0] == "list":
            parts = list(part[1])
            if plainly:
                for inner in parts:
                    self.check_template(inner, around, True)
            elif parts and is_dots(parts[0]):
                if len(parts) != 2:
                    raise RulesError("dots", occurrence_of(parts[0]))
                self.check_template(parts[1], around, True)
            else:
                for inner, dots in grouped(parts):
                    self.check_template(inner, around + len(dots), False)
                    if dots and not self.repeated(inner):
                        raise RulesError("dots", occurrence_of(dots[0]))

    def match_parts(self, parts, row, same, got):
        at = [k for k, part in enumerate(parts) if is_dots(part)]
        if not at:
            return len(parts) == len(row) and all(self.match(one, two, same, got) for one, two in zip(parts, row))
        heads, repeated, tails = parts[:at[0] - 1], parts[at[0] - 1], parts[at[0] + 1:]
        if len(row) < len(heads) + len(tails):
            return False
        last = len(row) - len(tails)
        if not all(self.match(one, two, same, got) for one, two in zip(heads, row)):
            return False
        for one in self.repeated(repeated):
            got[one] = []
        for two in row[len(heads):last]:
            inner = {}
            if not self.match(repeated, two, same, inner):
                return False
            for one in inner:
                got[one].append(inner[one])
        return all(self.match(one, two, same, got) for one, two in zip(tails, row[last:]))

    def match(self, pattern, syntax, same, got):
        if pattern[0] == "list":
            return syntax[0] == "list" and self.match_parts(pattern[1], syntax[1], same, got)
        if pattern[0] == "atom":
            if pattern[1] == "wild":
                return True
            return syntax[0] == "atom" and syntax[1:3] == pattern[1:3]
        if key(pattern) in self.literals:
            if syntax[0] != "id":
                return False
            told = same(self.literals[key(pattern)], syntax)
            if told is None:
                raise RulesError("ambiguous", syntax[2])
            return told
        got[key(pattern)] = syntax
        return True

    def fill(self, part, got, plainly):
        if part[0] == "id":
            return got.get(key(part), part)
        if part[0] == "atom":
            return part
        if plainly:
            return ("list", tuple(self.fill(inner, got, True) for inner in part[1]), part[2])
        if part[1] and is_dots(part[1][0]):
            return self.fill(part[1][1], got, True)
        made_parts = []
        for inner, dots in grouped(list(part[1])):
            self.fill_copies(inner, dots, len(dots), got, made_parts)
        return ("list", tuple(made_parts), part[2])

    def fill_copies(self, part, dots, left, got, made_parts):
        if left == 0:
            made_parts.append(self.fill(part, got, False))
            return
        names = self.repeated(part)
        counts = {len(got[name]) for name in names}
        if len(counts) > 1:
            raise RulesError("lengths", occurrence_of(dots[0]))
        for at in range(counts.pop()):
            self.fill_copies(part, dots, left - 1, {**got, **{name: got[name][at] for name in names}}, made_parts)

    def apply(self, use, same):
        got = {}
        if use[0] != "list" or not use[1] or not self.match_parts(self.parts, use[1][1:], same, got):
            raise RulesError("match", occurrence_of(use))
        result = self.fill(self.template, got, False)
        if size(result) > 3000 or depth(result) > 100:
            raise RulesError("size", occurrence_of(use))
        return result


def grouped(parts):
    found = []
    for part in parts:
        if is_dots(part):
            found[-1][1].append(part)
        else:
            found.append((part, []))
    return found


def random_row(rng, deep, words, dots):
    row = []
    for _ in range(rng.randrange(4)):
        if deep > 0 and rng.random() < 0.4:
            row.append("(" + random_row(rng, deep - 1, words, dots) + ")")
        else:
            row.append(words.pop() if isinstance(words, list) and words else rng.choice("kj12_"))
        if rng.random() < dots:
            row.append("...")
    return " ".join(row)


def template_for(rng, deep, variables, around):
    """A template that is mostly right for variables with depths."""
    pick = rng.random()
    fitting = [name for name, many in variables if many in (0, around)]
    if deep == 0 or pick < 0.3:
        return rng.choice(fitting) if fitting and pick < 0.28 else rng.choice(["x", "1", "_", "a", "j"])
    if pick < 0.36:
        return "(... " + rng.choice(["...", "(a ... j)", template_for(rng, deep - 1, variables, around)]) + ")"
    parts = []
    for _ in range(rng.randrange(4)):
        dots = rng.choice([0, 0, 1, 1, 2])
        later = [name for name, many in variables if many >= around + dots and many > 0]
        if dots and later:
            name = rng.choice(later)
            many = dict(variables)[name] - around
            first = rng.randrange(1, many + 1)
            inner = name
            if first < many:
                inner = "(" + rng.choice(["", "x "]) + name + " ..." * (many - first) + ")"
            elif rng.random() < 0.5:
                inner = "(" + name + " " + template_for(rng, deep - 1, variables, around + first) + ")"
            parts.append(inner + " ..." * first)
        else:
            parts.append(template_for(rng, deep - 1, variables, around))
    return "(" + " ".join(parts) + ")"


class TestAgainstThePlainWay(unittest.TestCase):
    def check(self, rng, source, told):
        form = syn(source)
        clause = form[1][2]
        mine = outcome(Rules, form)
        plain = outcome(Plain, clause[1][0], clause[1][1], form[1][1][1])
        told[mine[1] if mine[0] != "gives" else "made"] = True
        self.assertEqual(mine[0] == "gives", plain[0] == "gives", source)
        if mine[0] != "gives":
            self.assertEqual(mine, plain, source)
            return None
        return mine[1], plain[1]

    def use_for(self, rng, syntax):
        """The text of a use that mostly matches a pattern."""
        if syntax[0] == "list":
            parts = []
            for inner, dots in grouped(list(syntax[1])):
                parts.extend(self.use_for(rng, inner) for _ in range(rng.randrange(3) if dots else 1))
            return "(" + " ".join(parts) + ")"
        if rng.random() < 0.03:
            return rng.choice(["7", "()", "k"])
        if syntax[0] == "id" and syntax[1] not in "kj" or text_of(syntax) == "_":
            return rng.choice(["k", "j", "3", "(4 5)", "()", "..."])
        return text_of(syntax)

    def test_random_rules(self):
        rng = seeded(6)
        told = {}
        for _ in range(12000):
            row = random_row(rng, 3, list("gfedcba"), 0.25)
            variables = []
            pattern = f"(_ {row})"
            template = random_row(rng, 3, list("gfedcba"), 0.2)
            template = f"({template})"
            first = outcome(Rules, syn(f"(rules (k j) ({pattern} 0))"))
            if first[0] == "gives" and rng.random() < 0.9:
                names = [one for one in "abcdefg" if one in row.split() or "(" + one in row or one + ")" in row]
                places = {place: deep for (_, place), deep in first[1].variables(0)}
                left = [syn(f"(rules (k j) ({pattern} 0))")]
                while left:
                    part = left.pop()
                    if part[0] == "list":
                        left.extend(part[1])
                    elif part[0] == "id" and part[2][1] in places and part[1] in names:
                        variables.append((part[1], places[part[2][1]]))
                template = template_for(rng, 3, variables, 0)
            both = self.check(rng, f"(rules (k j) ({pattern} {template}))", told)
            if both is None:
                continue
            for _ in range(2):
                use = syn(self.use_for(rng, syn(pattern)), module="u")
                asked, plainly_asked = [], []

                def same(log):
                    return lambda one, other: log.append((one, other)) or (None if other[2][1] == 9 else one[1] == other[1])

                mine = outcome(both[0].apply, use, same(asked))
                plain = outcome(both[1].apply, use, same(plainly_asked))
                self.assertEqual(mine, plain, (pattern, template))
                self.assertEqual(asked, plainly_asked)
                told[mine[1] if mine[0] != "gives" else "gives"] = True
        self.assertEqual(sorted(told), ["ambiguous", "depth", "dots", "gives", "lengths", "made", "match"])


if __name__ == "__main__":
    unittest.main()
