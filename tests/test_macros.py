"""Uses of macros, evaluations while a module is compiled, and late bindings (points 34 to 37)."""

import unittest

from checks import ModuleCase
from helper import made_of, spot
from samples import SAMPLES
from wherewritten.showing import show
from wherewritten.reading import read


class TestHygiene(ModuleCase):
    def test_what_is_inserted_does_not_capture(self):
        self.check_values("""(defmac my-or (rules () ((_ a b) (let ((t a)) (if t t b)))))
            (let ((t 5)) (my-or #f t)) (let ((if list)) (my-or #f (if 1 2)))""", "5", "(1 2)")

    def test_what_is_inserted_is_not_captured(self):
        self.check_values("""(def helper (fn (x) (list x x))) (defmac m (rules () ((_ e) (helper e))))
            (let ((helper 1) (list 2)) (m helper)) (let ((if 1) (m2 3)) (m if))""", "(1 1)", "(1 1)")

    def test_local_macros_keep_what_they_mean(self):
        self.check_values("(let ((x 1)) (letmac ((get (rules () ((_) x)))) (let ((x 2)) (list x (get)))))", "(2 1)")
        self.check_values("(let ((x 1)) (defmac get (rules () ((_) x))) (let ((x 2)) (list x (get))))", "(2 1)")
        self.check_values("(let () (defmac m (rules () ((_ a) (let ((b 2)) (list a b))))) (let ((b 1)) (m b)))", "(1 2)")

    def test_definitions_of_macros(self):
        text = """(defmac def-two (rules () ((_ n v) (do (def hidden v) (def n (fn () (set hidden (+ hidden 1)) hidden))))))
            (def-two a 1) (def-two b 10) (def hidden 100) (list (a) (a) (b) hidden)"""
        self.check_values(text, "(2 3 11 100)")
        inner = text.replace("(defmac", "(let () (defmac", 1) + ")"
        self.check_values(inner, "(2 3 11 100)")

    def test_binders_bodies_and_expressions_as_parameters(self):
        self.check_values("""(defmac with (rules () ((_ x e body ...) ((fn (x) body ...) e))))
            (with a 1 (with b (+ a 1) (list a b))) (with a 1 (def c a) (list a c))""", "(1 2)", "(1 1)")

    def test_templates_of_one_another(self):
        self.check_values("""(defmac make (rules () ((_ name v) (defmac name (rules () ((_ x) (let ((y 2)) (list v x y))))))))
            (def y 3) (make m y) (m y) (let ((y 4)) (m y))""", "(3 3 2)", "(3 4 2)")
        self.check_values("""(defmac m (rules () ((_ x) (letmac ((n (rules () ((_ y) (let ((z x)) (list y z)))))) (let ((z 5)) (n z))))))
            (let ((z 6)) (m z))""", "(5 6)")

    def test_use_site_scopes(self):
        # Without use-site scopes x would be ambiguous there.
        identity = "(defmac identity (rules () ((_ y) (fn (x) (let ((y 5)) x))))) ((identity x) 7)"
        self.check_values(identity, "7")
        self.check_values(f"(let () {identity})", "7")
        self.check_values(f"(up {identity[:-2]}1)) (def ok 1) ok", "1")
        # A binder of the body loses them.
        self.check_values("""(let () (defmac def-id (rules () ((_ n v) (do (def x 1) (def n v)))))
            (def-id x 2) x)""", "2")
        self.check_values("""(def x 1) (defmac same (rules () ((_ y e) (let ((y 2)) e)))) (same x x)""", "2")
        self.check_values("(let () (defmac id (rules () ((_ e) e))) (def x (id (fn (y) y))) ((id x) 4))", "4")
        # A name that is handed to a macro of the same body, and comes back as a binder.
        self.check_values("""(let () (defmac ident (rules () ((_ e) (define e)))) (defmac define (rules () ((_ n) (def n 3))))
            (ident x) (define y) (list x y))""", "(3 3)")

    def test_procedures_can_break_it_on_purpose(self):
        self.check_values("""(defmac loop-it (fn (s) (match s () ((k e)
              (match (recolored k #'it) () (it (fill (let ((it 5)) e))))))))
            (def it 1) (loop-it (list it it))""", "(5 5)")

    def test_ambiguous(self):
        outer = """(defmac outer (rules () ((_ inner y) (do (def x 1) (defmac inner (rules () ((_) (do {} {}))))))))
            (outer in x) (in)"""
        for form in ("(list ^x)", "^x", "(^x 1)", "(set ^x 3)", "(fill (1 ^x))", "(let () ^x)"):
            self.check_error("ambiguous", outer.format("(def y 2)", form))
        self.check_values(outer.format("(let ((y 2)) y)", "(list x)"), "2", "(1)")


class TestUses(ModuleCase):
    def test_kinds_of_macros(self):
        self.check_values("(defmac m (fn (s) #'5)) (m) m (m 1 2) (list m)", "5", "5", "5", "(5)")
        self.check_values("(defmac m (rules () ((_ a) 'a) ((_ a b) '(b a)))) (m 1 2) (m 3)", "(2 1)", "3")
        self.check_values("(let () (defmac m (fn (s) #'5)) m)", "5")
        # A primitive procedure takes the use as its argument.
        self.check_error("run kind", "(defmac m first) ^(m)")
        self.check_error("result", "(defmac m syntax?) ^(m)")
        self.check_values("(defmac m (fn (s) (first (rest (parts s))))) (m 4)", "4")

    def test_what_is_no_procedure(self):
        self.check_error("macro", "(defmac m 5) ^(m 1)")
        self.check_error("macro", "(defmac m 5) (list ^m)")
        self.check_error("macro", "(letmac ((m #'x)) (list ^(m 1)))")

    def test_what_gives_no_syntax(self):
        self.check_error("result", "(defmac m (fn (s) 5)) (list ^(m 1))")
        self.check_error("result", "(defmac m (fn (s) (list s))) ^(m 1)")
        self.check_error("result", "(let () (defmac m (fn (s) (parts s))) ^(m))")
        self.check_error("result", "(defmac m list) ^(m 1)")

    def test_errors_of_evaluations(self):
        for code, term in (("fail", "(fail 1)"), ("apply", "(1)"), ("kind", "(first '())"), ("count", "(first)"),
                           ("early", "(letrec ((a b) (b a)) a)"), ("size", "(* x x)"), ("macro", "(local-value #'nope)")):
            head = "(up (def x 1000000000000000000000000000)) "
            self.check_error("run " + code, head + f"(defmac m (fn (s) {term})) (list ^(m))")
            if code != "macro":
                self.check_error("run " + code, head + f"^(defmac m {term})")
                self.check_error("run " + code, head + f"(list ^(letmac ((m {term})) 1))")
                self.check_error("run " + code, head + f"(list ^(recmac ((m {term})) 1))")
                self.check_error("run " + code, head + f"(let () ^(defmac m {term}) 1)")
                self.check_error("run " + code, head + f"^(up {term})")
                self.check_error("run " + code, head + f"^(up (def y 1) (def z {term}))")
        self.check_error("run count", "(defmac m (fn () #'1)) ^(m)")
        self.check_error("run count", "(defmac m (fn (a b) #'1)) ^(m)")
        self.check_error("run match", "(defmac m (rules () ((_ 1) 2))) (list ^(m 2))")
        self.check_error("run match", "(defmac m (rules () ((_ 1) 2))) (list ^m)")
        self.check_error("run lengths", "(defmac m (rules () ((_ (a ...) (b ...)) ((a b) ...)))) ^(m (1) ())")
        self.check_error("run size", "(defmac m (rules () ((_ a ...) (list '(a ... a ...) '(a ... a ...))))) ^(m"
                         + " 1" * 800 + ")")

    def test_levels_of_errors(self):
        self.check_error("run fail", "(up ^(up (fail 1)))")
        self.check_error("run fail", "(up (up ^(up (fail 1))))")
        self.check_error("unbound", "(up (up (list ^x)))")
        self.check_error("run fail", "(up (defmac m (fn (s) (fail 1))) (list ^(m)))")

    def test_nothing_is_expanded_in_other_evaluations(self):
        for term in ("(free=? #'a #'a)", "(fresh #'a)", "(local-value #'a)", "((rules () ((_) 1)) #'(m))",
                     "(match #'a (a) (a 1))"):
            self.check_error("run expanding", f"(list ^(letmac ((m {term})) 1))")
            self.check_error("run expanding", f"^(defmac m {term})")
            self.check_error("run expanding", f"(let () ^(defmac m {term}) 1)")
            self.check_error("run expanding", f"^(up {term})")
            self.check_error("run expanding", f"(defmac n (rules () ((_) ^(letmac ((m {term})) 1)))) (list (n))")

    def test_500_uses(self):
        text = "(recmac ((m (rules () ((_) 7) ((_ a b ...) (m b ...))))) (m{}))"
        self.check_values(text.format(" 1" * 499), "7")
        self.check_error("steps", "(recmac ((m (rules () ((_) 7) ((_ a b ...) ^(m b ...))))) (m" + " 1" * 500 + "))")
        text = "(defmac m (rules () ((_) 7))) " + "(m) " * 500
        self.assertEqual(len(made_of(text).steps()), 500)
        self.check_error("steps", text + "(let () ^(m))")
        # It is asked ahead of what the macro is.
        self.check_error("steps", text + "(letmac ((n 1)) (list ^n))")

    def test_size_of_a_result(self):
        # There are three data in '1.
        big = "(do" + "'1" * 999 + "{})"
        self.assertEqual(size_of(big.format("")), 2999)
        second = "(defmac m (fn (s) (first (rest (parts s))))) "
        self.check_compiles(second + "(m " + big.format(" 1") + ")")
        self.check_error("size", second + "^(m " + big.format(" 1 1") + ")")
        self.check_compiles(second + "(let () (m " + big.format(" 1") + "))")
        self.check_error("size", second + "(let () ^(m " + big.format(" 1 1") + "))")
        self.check_error("size", "(defmac m (fn (s) s)) ^(m " + big.format("") + ")")

    def test_depth_of_a_result(self):
        text = """(up (def around (fn (n s) (if (= n 0) s (around (- n 1) (join (list s) s))))))
            (up (def kept #'1))
            (defmac none (rules () ((_ a) 1)))
            (defmac keep (fn (s) (match s () ((_ n k) (do (set kept (around (datum n) #'k)) #'1)))))
            (defmac get (fn (s) (match s () ((_) (fill (none))))))
            (defmac m (fn (s) (match s () ((_ n k) (join (list #'none (around (datum n) k)) s))))) """
        self.check_values(text + "(m 99 1)", "1")
        self.check_values(text + "(m 98 ())", "1")
        self.check_error("run size", text + "^(m 100 1)")
        self.check_error("run size", text + "^(m 99 ())")
        # A result that was not made by join is looked at, too.
        deep = "(up (def at100 (around 100 #'1)) (def rest100 (parts (join (list #'none at100) #'1))))"
        self.check_error("run size", text + "^" + deep)


def size_of(text):
    count = 0
    left = list(read(text))
    while left:
        kind, value, _ = left.pop()
        count += 1
        if kind == "list":
            left.extend(value)
    return count


class TestEvaluations(ModuleCase):
    LOOP = "(letrec ((f (fn (n) (if (= n 0) {} (f (- n 1)))))) (f {}))"

    def begun_of(self, text):
        return made_of(text).begun()

    def test_begun(self):
        self.assertEqual(self.begun_of("1 (list 2)"), 0)
        self.assertEqual(self.begun_of("(up 1)"), 1)
        self.assertEqual(self.begun_of("(up (list 2))"), 3)
        self.assertEqual(self.begun_of("(defmac m (fn (s) s))"), 1)
        self.assertEqual(self.begun_of("(defmac m (fn (s) #'1)) (m) (m)"), 3)
        self.assertEqual(self.begun_of("(defmac m (rules () ((_) 1))) (m) (m)"), 1)
        self.assertEqual(self.begun_of("(letmac ((m 1) (n (list))) 1)"), 3)

    def test_100000_terms(self):
        # Each time f is applied 10 terms begin, the last time 5; and 5 around.
        loop = "(up " + self.LOOP.format("0", "{}") + "{})"
        many = self.begun_of(loop.format(10, ""))
        each = self.begun_of(loop.format(11, "")) - many
        times, rest = divmod(100000 - many, each)
        text = loop.format(10 + times, " 1" * rest)
        self.assertEqual(self.begun_of(text), 100000)
        self.check_error("run fuel", "^" + loop.format(10 + times, " 1" * (rest + 1)))
        self.check_error("run fuel", text + " ^(up 1)")
        self.check_error("run fuel", text + " ^(defmac m 1)")
        self.check_error("run fuel", text + " (list ^(letmac ((m 1)) 2))")
        self.check_error("run fuel", text + "(let () ^(defmac m 1) 2)")

    def test_fuel_of_modules_that_are_made_ready(self):
        loop = "(up " + self.LOOP.format("0", "{}") + "{})"
        artifacts = {"a": made_of(loop.format(5000, ""), "a").artifact()}
        many = made_of("(use a)", "m", artifacts).begun()
        self.assertEqual(many, made_of(loop.format(5000, ""), "a").begun())
        self.assertEqual(made_of("(use a) (use a)", "m", artifacts).begun(), many)
        artifacts = {"a": made_of(loop.format(9000, ""), "a").artifact(), "b": made_of(loop.format(9000, ""), "b").artifact()}
        self.check_error("run fuel", "(use a ^b)", artifacts)
        self.check_error("run fuel", "(use a (only ^b))", artifacts)
        # What is evaluated at level 0 only is not evaluated then.
        artifacts["c"] = made_of("(letrec ((f (fn () (f)))) (f))", "c").artifact()
        made_of("(use c)", "m", artifacts)
        self.check_error("run fuel", "(up (use ^c))", artifacts)

    def test_free_identifiers(self):
        text = """(defmac same (fn (s) (match s () ((_ a b) (wrap (free=? a b) s))))) (def x 1) (up (def y 1)) """
        self.check_values(text + "(same x x) (same x y) (same nope nope) (same nope other) (same if if) (same if list)",
                          "#t", "#f", "#t", "#f", "#t", "#f")
        self.check_values(text + "(let ((x 2) (y 2)) (same x y)) (let ((x 2)) (same x x))", "#f", "#t")
        self.check_values(text + """(defmac m (rules () ((_ z) (let ((x 3)) (list (same x z) (same x x) (same z x))))))
            (m x)""", "(#f #t #f)")
        self.check_values(text + "(defmac n (rules () ((_ z) (list (same x z) (same nope z))))) (n x) (n nope)",
                          "(#t #f)", "(#f #t)")

    def test_ambiguous_comparisons(self):
        text = """(defmac same (fn (s) (match s () ((_ a b) (wrap (free=? a b) s)))))
            (defmac k (rules (lit) ((_ lit) 1) ((_ z) 2)))
            (defmac outer (rules () ((_ inner y) (do (def x 1) (defmac inner (rules () ((_) (do (def y 2) {})))))))) (outer in x) (in)"""
        self.check_error("run ambiguous", text.format("^(same x nope)"))
        self.check_error("run ambiguous", text.format("^(same nope x)"))
        self.check_error("run ambiguous", text.format("^(k x)"))

    def test_fresh(self):
        self.check_values("""(defmac two (fn (s) (match s () ((_ a b) (let ((f (fresh a)) (g (fresh a)))
            (fill (let ((f 1) (g 2) (a 3)) (list f g a b))))))))
            (two x x)""", "(1 2 3 3)")
        self.check_values("(defmac m (fn (s) (let ((f (fresh #'x))) (wrap (list? (list f)) s)))) (m)", "#t")
        self.check_values("(defmac m (fn (s) (let ((f (fresh #'x))) (wrap (bound=? f #'x) s)))) (m)", "#f")

    def test_local_value(self):
        call = "(defmac call (fn (s) (match s () ((_ m a) ((local-value m) (fill (m a))))))) "
        self.check_values(call + "(defmac n (rules () ((_ b) (list b b)))) (call n 4)", "(4 4)")
        self.check_values(call + "(letmac ((n (rules () ((_ b) (list b b))))) (call n 4))", "(4 4)")
        self.check_values(call + "(let () (defmac n (rules () ((_ b) (list b b)))) (call n 4))", "(4 4)")
        self.check_error("run macro", call + "^(call list 4)")
        self.check_error("run macro", call + "^(call if 4)")
        self.check_error("run macro", call + "^(call nope 4)")
        self.check_error("run macro", call + "(def x 1) ^(call x 4)")
        self.check_error("run macro", call + "(up (defmac n 1)) ^(call n 4)")
        keep = "(up (def kept #'0)) (defmac call-kept (fn (s) ((local-value kept) s))) "
        inside = "(letmac ((n (rules () ((_) 1)))) (letmac ((k (do (set kept #'n) 1))) {}))"
        self.check_values(keep + inside.format("(call-kept)"), "1")
        self.check_error("run macro", keep + inside.format("2") + " (let () ^(call-kept))")

    def test_values_of_macros(self):
        self.check_values("""(defmac table '(1 2 3)) (defmac nth (fn (s) (match s () ((_ t) (wrap (first (rest (local-value t))) s)))))
            (nth table)""", "2")


class TestLate(ModuleCase):
    SAME = "(defmac same (fn (s) (match s () ((_ a b) (wrap (free=? a b) s))))) "

    def test_looks(self):
        self.check_error("late", "(^list 1) (def list 2)")
        self.check_error("late", "(^m 1) (defmac m (rules () ((_ a) a)))")
        self.check_error("late", "^m (defmac m (rules () ((_ a) a)))")
        self.check_error("late", "(^if 1 2 3) (def if 1)")
        self.check_error("late", "(let () (def x (list 1)) (^do (def y 1)) (def do 2) x)")
        self.check_error("late", "(up (^list 1) (def list 2))")
        self.check_error("late", "(up (up (^list 1) (def list 2)))")
        self.check_values("(def f (fn () (g 1))) (def g list) (f)", "(1)")
        self.check_values("(let () (def f (fn () (g))) (def g (fn () 3)) (f))", "3")
        self.check_error("unbound", "(^m 1) (def m2 1)")

    def test_the_same_in_the_end(self):
        # It is bound anew, to the same target.
        artifacts = {"a": made_of("(def f list) (offer f)", "a").artifact()}
        self.check_compiles("(use a) (f 1) (use (only a f)) (use a)", artifacts)
        # It was not bound when it was looked at, and is a variable then.
        self.check_values("(if #f (f 2) 3) (def f list)", "3")
        self.check_run_error("early", "(^f 2) (def f list)")

    def test_what_gets_ambiguous(self):
        text = """(defmac outer (rules () ((_ inner y) (do (def x list) (defmac inner (rules () ((_) (do (^x 5) (def y 2)))))))))
            (outer in x) (in)"""
        self.check_error("late", text)

    def test_comparisons(self):
        self.check_values(self.SAME + "(same a a) (def a 1)", "#t")
        self.check_error("late", self.SAME + "(same ^a b) (defmac a 1)")
        self.check_error("late", self.SAME + "(same a ^b) (defmac b 1)")
        self.check_error("late", self.SAME + "(same ^a b) (defmac b 1) (defmac a 2)")
        self.check_error("late", self.SAME + "(def b 1) (same ^list b) (def list 2)")
        self.check_error("late", self.SAME + "(def b 1) (same b ^list) (def list 2)")

    def test_what_comparisons_tell(self):
        # Both are unbound, with one name; then one of them is bound, which alone would do no harm.
        text = self.SAME + "(defmac m (rules () ((_ z) (do (same {}a z) {})))) (m a)"
        self.check_error("late", text.format("^", "(def a 1)"))
        # Both are bound in the end, to the same.
        self.check_values(text.format("", "(def z 1)"), "#t")
        self.check_error("late", self.SAME + "(defmac m (rules () ((_ z) (do (same z a) (def a 1))))) (m ^a)")

    def test_literals(self):
        self.check_values("(defmac k (rules (lit) ((_ lit) 1) ((_ z) 2))) (k lit) (def lit 5)", "1")
        # The literal of the list of these is the first one of the comparison.
        self.check_error("late", """(defmac m (rules () ((_ z) (do
            (defmac k (rules (^lit) ((_ lit) 1) ((_ y) 2))) (k z) (def lit 1))))) (m lit)""")
        self.check_error("late", """(defmac m (rules () ((_ z) (do
            (defmac k (fn (s) (match s (^lit) ((_ lit) #'1)))) (k z) (def lit 1))))) (m lit)""")

    def test_inside_of_uses_and_bodies(self):
        # What is resolved in the term of a macro, at another phase, while the pass goes on.
        self.check_error("late", "(defmac m (fn (s) (^list s))) (up (def list 1))")
        self.check_error("late", "(defmac m (let () (def y (^list 1)) y)) (up (def list 1))")
        self.check_error("late", "(up (up (list 1)) (defmac q (fn (s) (list s)))) (up (^list 1)) (up (def list 1))")
        # What pass 2 resolves comes behind all definitions.
        self.check_values("(def f (fn (x) (list x))) (def list (fn (x) x)) (f 3)", "3")

    def test_specs(self):
        artifacts = {"a": made_of("(def x 1) (offer x)", "a").artifact()}
        self.check_error("late", "(use (^only a x)) (def only 1)", artifacts)
        self.check_error("late", "(use (^rename a)) (def rename 1)", artifacts)

    def test_local_values(self):
        call = "(defmac call (fn (s) (match s () ((_ m) (do (local-value m) #'1))))) "
        self.check_error("late", call + """(defmac n 1) (defmac outer (rules () ((_ y) (do (call ^n) (def n 1)))))
            (outer n)""")

    def test_in_an_inner_body(self):
        self.check_error("late", "(let () (^do (do) (def do 1) 1))")
        self.check_values("(let ((x (list 1))) (def list2 x) (let () (def list 4) (cons list list2)))", "(4 1)")

    def test_each_pass_looks_at_its_own(self):
        # The look at list is one of the group, and the body ends first.
        self.check_error("unbound", "(list 1) (def list 2) (defmac k (let () (def x 1) ^nope))")
        self.check_error("unbound", "(list 1) (def list 2) (up (def x ^nope))")

    def test_ahead_of_other_errors_of_the_pass(self):
        self.check_error("late", "(^list 1) (def list nope)")
        self.check_error("double", "(list 1) (def list 1) (def ^list 2)")
        self.check_error("late", "(offer nope) (^list 1) (def list 1)")


class TestSteps(ModuleCase):
    def test_steps(self):
        text = "(defmac m (rules () ((_ a) (list a #'a)))) (def x 1) (m x) (letmac ((n (fn (s) #'5))) (list n (n)))"
        steps = made_of(text).steps()
        self.assertEqual(steps, [
            (("m", spot(text, "(m x)")), 0, ("macro", "m", 0, 0), "(m x)", "(list x (syntax x))"),
            (("m", spot(text, "n (n)")), 0, ("own", "m", 0), "n", "5"),
            (("m", spot(text, "(n)")), 0, ("own", "m", 0), "(n)", "5"),
        ])

    def test_steps_at_other_phases(self):
        text = "(up (defmac two (rules () ((_ a) (list a a)))) (two 1)) (defmac m (do (two 2) (fn (s) s)))"
        told = [(phase, target) for _, phase, target, _, _ in made_of(text).steps()]
        self.assertEqual(told, [(1, ("macro", "m", 1, 0)), (1, ("macro", "m", 1, 0))])

    def test_texts(self):
        text = "(defmac m (rules () ((_ a ...) #'(a ... #'(a ...) \"x\" #t)))) (m '1 -2)"
        self.assertEqual(made_of(text).steps()[0][3:],
                         ("(m (quote 1) -2)", "(syntax ((quote 1) -2 (syntax ((quote 1) -2)) \"x\" #t))"))
        for name, source in SAMPLES.items():
            if "(use" not in source:
                for _, _, _, before, after in made_of(source, name).steps():
                    for shown in (before, after):
                        self.assertEqual(" ".join(show(form) for form in read(shown)), shown)


if __name__ == "__main__":
    unittest.main()
