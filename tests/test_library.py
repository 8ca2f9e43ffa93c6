"""The library (points 74 to 79)."""

import unittest

from helper import artifacts_of, made_of, outcome, seeded, values_of
from wherewritten.arrows import all_fixed, group
from wherewritten.calling import called_otherwise, compile_all
from wherewritten.compiling import compile_module
from wherewritten.library import library
from wherewritten.linking import program, run
from wherewritten.reading import is_name, spelled
from wherewritten.store import Store

OFFERS = {
    "logic": "and or when unless cond case",
    "binding": "let* loop swap let-list pipe",
    "lists": "length fold fold-back reverse append map filter all-of? some-of? has? nth take drop range zip sort",
    "loops": "each times list-of sum-of",
    "records": "record",
}
ORDER = ["lists", "logic", "binding", "loops", "records"]
ARTIFACTS = artifacts_of({name: library()[name] for name in ORDER})
USE = "(use binding lists logic loops records) "
# say tells in which order it was called.
SAY = USE + "(def said '()) (def say (fn (v) (set said (cons v said)) v)) (def told (fn () (let ((l (reverse said))) (set said '()) l))) "


class LibraryCase(unittest.TestCase):
    def values(self, text, fuel=10 ** 6, more=None):
        return values_of(text, artifacts={**ARTIFACTS, **(more or {})}, fuel=fuel)

    def check(self, text, *values):
        self.assertEqual(self.values(USE + text), list(values), text)

    def check_said(self, form, value, *said):
        """The form gives a value, and calls say with these."""
        told = self.values(SAY + f"{form} (told)")
        self.assertEqual(told, [value, "(" + " ".join(said) + ")"], form)

    def check_error(self, code, form):
        self.assertEqual(outcome(self.values, USE + form)[:2], ("RunError", code), form)


class TestModules(LibraryCase):
    def test_dict(self):
        self.assertEqual(sorted(library()), sorted(OFFERS))
        self.assertIsNot(library(), library())
        library()["lists"] = ""
        self.assertGreater(len(library()["lists"]), 100)
        for text in library().values():
            self.assertLessEqual(len(text), 6000)

    def test_modules(self):
        made = compile_all(library())
        for compiled in made:
            artifact = compiled.artifact()
            self.assertEqual(artifact, ARTIFACTS[artifact[1]])
            self.assertEqual([item for item in artifact[5] if item[0] == "expr" and item[1] == 0], [])
            self.assertLessEqual({module for module, _ in artifact[2]}, set(OFFERS))
            self.assertEqual(sorted(offer[0] for offer in artifact[3] if offer[1] == 0), sorted(OFFERS[artifact[1]].split()))

    def test_store(self):
        store = Store()
        for name, text in library().items():
            store.put(name, text)
        store.put("m", "(use loops) (times x 3 (* x x))")
        store.build("m")
        self.assertEqual(store.run("m", 10000), [("m", "(0 1 4)")])


class TestLogic(LibraryCase):
    def test_and_or(self):
        self.check("(and) (and 5) (and #f) (and 1 2) (and #f 2) (and 1 #f) (and 0 '() 3)", "#t", "5", "#f", "2", "#f", "#f", "3")
        self.check("(or) (or 5) (or #f) (or 1 2) (or #f 2) (or #f #f) (or #f 0 3)", "#f", "5", "#f", "1", "2", "#f", "0")
        for many in range(13):
            for stop in range(many + 1):
                parts = [f"(say {k})" if k != stop else f"(do (say {k}) #f)" for k in range(many)]
                said = [str(k) for k in range(min(stop + 1, many))]
                value = "#f" if stop < many else str(many - 1) if many else "#t"
                self.check_said(f"(and {' '.join(parts)})", value, *said)
                parts = [f"(do (say {k}) #f)" if k != stop else f"(say {k})" for k in range(many)]
                self.check_said(f"(or {' '.join(parts)})", str(stop) if stop < many else "#f", *said)

    def test_when_unless(self):
        self.check("(when 0 1 2) (when #f 1 2) (when #t) (when #f) (when 1 2)", "2", "#f", "#f", "#f", "2")
        self.check("(unless 0 1 2) (unless #f 1 2) (unless #t) (unless #f) (unless #f 2)", "#f", "2", "#f", "#f", "2")
        self.check_said("(when (say 1) (say 2) (say 3))", "3", "1", "2", "3")
        self.check_said("(when (not (say 1)) (say 2))", "#f", "1")
        self.check_said("(when (say 1))", "#f", "1")
        self.check_said("(unless (not (say 1)) (say 2) (say 3))", "3", "1", "2", "3")
        self.check_said("(unless (say 1) (say 2))", "#f", "1")
        self.check_said("(unless (say 1))", "#f", "1")

    def test_cond(self):
        self.check("(cond) (cond (#f 1)) (cond (1)) (cond (#t 1 2)) (cond (#f 1) (0 2)) (cond (#f 1) (else 2 3)) (cond (else)) (cond (else 4))",
                   "#f", "#f", "#f", "2", "2", "3", "#f", "4")
        self.check_said("(cond ((not (say 1)) (say 2)) ((say 3) (say 4) (say 5)) ((say 6) (say 7)))", "5", "1", "3", "4", "5")
        self.check_said("(cond ((not (say 1)) (say 2)) ((not (say 3))) (else (say 4) (say 5)))", "5", "1", "3", "4", "5")
        for stop in range(12):
            clauses = " ".join(f"((= {stop} {k}) {k} {k + 100})" for k in range(11)) + " (else 111)"
            self.check(f"(cond {clauses})", str(stop + 100))

    def test_else(self):
        # One that is bound is like other tests.
        self.check("(let ((else #f)) (cond (else 1))) (let ((else #f)) (cond (#f 2) (else 1)))", "#f", "#f")
        self.check("(let ((other 1)) (cond (other 2))) (let ((x #f)) (cond (x 1) (else 3)))", "2", "3")
        self.check("(def else #f) (cond (else 1)) (cond (#f 2) (else 1) )", "#f", "#f")
        # One that a macro of the program puts in is bound nowhere, whatever is bound around its use.
        self.check("(defmac my (rules () ((_ a) (cond (#f 1) (else a))))) (let ((else #f)) (my 7))", "7")
        self.check("(defmac my (rules () ((_ a) (let ((else 1)) (cond (#f 1) (a 8)))))) (my else)", "8")

    def test_case(self):
        self.check("(case 3 ((1 2) 10) ((3 4) 20 30) (else 40)) (case 5 ((1) 10) (else 40)) (case 5 ((1) 10)) (case 5) (case 5 ((5)))",
                   "30", "40", "#f", "#f", "#f")
        self.check("(case '(1 \"a\") ((#t #f 2) 1) (((1 \"a\")) 2)) (case \"x\" ((\"y\" \"x\") 1)) (case #f ((0 ()) 1) ((#f) 2)) (case '() ((()) 1))",
                   "2", "1", "2", "1")
        self.check("(case 1 (() 1) (else)) (case 1 (else 5 6)) (case 1 (() 1)) (case list ((1) 2) (else 3))", "#f", "6", "#f", "3")
        self.check_said("(case (say 3) ((1) (say 4)) ((2 3) (say 5) (say 6)) ((3) (say 7)))", "6", "3", "5", "6")
        self.check_said("(case (say 9) ((1) (say 4)) (else (say 5)))", "5", "9", "5")
        self.check_said("(case (say 9))", "#f", "9")
        for value in range(0, 145, 11):
            clauses = " ".join("((" + " ".join(str(12 * k + j) for j in range(12)) + f") {k})" for k in range(11)) + " (else \"no\")"
            self.check(f"(case {value} {clauses})", str(value // 12) if value < 132 else "\"no\"")
        deep = "(" * 50 + ")" * 50
        self.check(f"(case '{deep} (({deep}) 1) (else 2))", "1")


class TestBinding(LibraryCase):
    def test_let_star(self):
        self.check("(let* () 1 2) (let* ((x 1)) x) (let* ((x 1) (y (+ x 1)) (x (+ y 1))) (list x y))", "2", "1", "(3 2)")
        self.check("(let ((b 5)) (let* ((a b) (b 1)) (list a b))) (let* ((x 1)) (def y 2) (def x 3) (list x y))", "(5 1)", "(3 2)")
        self.check_said("(let* ((a (say 1)) (b (say (+ a 1)))) (say (+ b 1)))", "3", "1", "2", "3")
        pairs = "(x0 1) " + " ".join(f"(x{k + 1} (+ x{k} x{k}))" for k in range(11))
        self.check(f"(let* ({pairs}) x11) (let* ({pairs}) (let* ({pairs}) (let* ((y 1)) (+ x11 y))))", "2048", "2049")

    def test_loop(self):
        self.check("(loop f ((n 5) (a 1)) (if (= n 0) a (f (- n 1) (* a n)))) (loop f () 3) (loop f ((f 1)) f)", "120", "3", "1")
        self.check("(let ((f (fn (x) (+ x 1)))) (loop f ((n (f 1))) (def m n) (if (< n 5) (f (+ m 2)) n)))", "6")
        self.check_said("(loop f ((a (say 1)) (b (say 2))) (if (< a 2) (f (say 3) (say 4)) (list a b)))", "(3 4)", "1", "2", "3", "4")
        names = " ".join(f"(x{k} {k})" for k in range(12))
        self.check(f"(loop again ({names}) (if (< x0 1) (again {' '.join(f'x{k}' for k in range(11, -1, -1))}) (list x0 x11)))", "(11 0)")
        self.assertEqual(self.values(USE + "(loop f ((n 20000)) (if (= n 0) n (f (- n 1))))"), ["0"])

    def test_swap(self):
        self.check("(def a 1) (def b 2) (swap a b) (list a b)", "1", "(2 1)")
        self.check("(let ((t 1) (a 2)) (swap t a) (list t a)) (let ((x 1)) (swap x x) x)", "(2 1)", "1")
        self.check("(def t 1) (let ((u 5)) (swap t u) (list t u)) t", "(5 1)", "5")

    def test_let_list(self):
        self.check("(let-list (a b) '(1 2) (list b a)) (let-list (a) '(1 2 3) a) (let-list () '() 1) (let-list () '(1) 2)", "(2 1)", "1", "1", "2")
        self.check("(let-list (a b) (list 1 2 3) (def c 4) (list a b c)) (let ((l 7)) (let-list (a) (list l) (list a l)))", "(1 2 4)", "(7 7)")
        self.check_said("(let-list (a b) (do (say 1) '(5 6 7)) (say a) (say b))", "6", "1", "5", "6")
        for form in ("(let-list (a) '() 1)", "(let-list (a b) '(1) 1)", "(let-list (a) 5 1)", "(let-list () 5 1)", "(let-list () \"a\" 1)",
                     "(let-list (a b c) '(1 2) 1)", "(let-list (a) list 1)"):
            self.check_error("kind", form)
        names = [f"x{k}" for k in range(12)]
        self.check(f"(let-list ({' '.join(names)}) (range 3 20) (list x0 x5 x11))", "(3 8 14)")
        self.check_error("kind", f"(let-list ({' '.join(names)}) (range 0 11) 1)")

    def test_pipe(self):
        self.check("(pipe x 5) (pipe x 5 (+ x 1)) (pipe x 5 (+ x 1) (* x 2) (list x x))", "5", "6", "(12 12)")
        self.check("(let ((x 1)) (pipe x x (+ x 1))) (pipe x 1 2 3) (pipe list 1 (+ list 1))", "2", "3", "2")
        self.check_said("(pipe x (say 1) (say (+ x 1)) (say (+ x 1)))", "3", "1", "2", "3")
        self.check("(pipe x 1" + " (+ x x)" * 11 + ")", "2048")


class TestLists(LibraryCase):
    def test_examples(self):
        self.check("(length '()) (length '(1 2 3)) (reverse '()) (reverse '(1 2 3)) (append '() '()) (append '(1 2) '(3)) (append '() '(1))",
                   "0", "3", "()", "(3 2 1)", "()", "(1 2 3)", "(1)")
        self.check("(fold - 10 '(1 2 3)) (fold list 0 '(1 2)) (fold-back - 10 '(1 2 3)) (fold-back list 0 '(1 2)) (fold + 1 '()) (fold-back + 1 '())",
                   "4", "((0 1) 2)", "-8", "(1 (2 0))", "1", "1")
        self.check("(map not '(#f 1)) (map (fn (x) (* x x)) '(1 2 3)) (map not '()) (filter (fn (x) (< x 3)) '(1 5 2 3 0)) (filter number? '())",
                   "(#t #f)", "(1 4 9)", "()", "(1 2 0)", "()")
        self.check("(filter (fn (x) (if (< x 3) x #f)) '(0 5 2))", "(0 2)")
        self.check("(all-of? number? '()) (all-of? number? '(1 2)) (all-of? number? '(1 #t 2)) (all-of? (fn (x) 0) '(1))",
                   "#t", "#t", "#f", "#t")
        self.check("(some-of? number? '()) (some-of? (fn (x) (if (< 2 x) (* x 10) #f)) '(1 2 3 4)) (some-of? number? '(#t))", "#f", "30", "#f")
        self.check("(has? '(1 2) 2) (has? '(1 2) 3) (has? '() 1) (has? '((1 \"a\") #t) '(1 \"a\")) (has? '(#t) 1)", "#t", "#f", "#f", "#t", "#f")
        self.check("(nth '(5 6 7) 0) (nth '(5 6 7) 2) (take '(1 2 3) 2) (take '(1 2) 0) (take '(1 2) 5) (drop '(1 2 3) 2) (drop '(1 2) 0) (drop '(1) 5)",
                   "5", "7", "(1 2)", "()", "(1 2)", "(3)", "(1 2)", "()")
        self.check("(range 2 5) (range 2 2) (range 5 2) (range 0 1) (range -2 2)", "(2 3 4)", "()", "()", "(0)", "(-2 -1 0 1)")
        self.check("(zip '(1 2) '(3 4)) (zip '(1 2 3) '(4)) (zip '() '(1)) (zip '(1) '())", "((1 3) (2 4))", "((1 4))", "()", "()")
        self.check("(sort < '()) (sort < '(1)) (sort < '(3 1 2)) (sort (fn (a b) (< b a)) '(3 1 2 3))", "()", "(1)", "(1 2 3)", "(3 3 2 1)")

    def test_where_they_stop(self):
        self.check_said("(all-of? (fn (x) (< (say x) 2)) '(1 2 3))", "#f", "1", "2")
        self.check_said("(some-of? (fn (x) (< 1 (say x))) '(1 2 3))", "#t", "1", "2")
        self.check_said("(fold (fn (a x) (say x)) 0 '(1 2 3))", "3", "1", "2", "3")
        self.check_said("(fold-back (fn (x a) (say x)) 0 '(1 2 3))", "1", "3", "2", "1")
        for form in ("map (fn (x) (say x))", "filter (fn (x) (say x))"):
            said = self.values(SAY + f"({form} '(1 2 3)) (sort < (told))")
            self.assertEqual(said, ["(1 2 3)", "(1 2 3)"])

    def test_sort(self):
        rng = seeded(45)
        for many in [*range(20), 31, 32, 33, 64, 65, 100]:
            pairs = [(rng.randrange(8), k) for k in range(many)]
            source = " ".join(f"({a} {b})" for a, b in pairs)
            wanted = " ".join(f"({a} {b})" for a, b in sorted(pairs, key=lambda pair: pair[0]))
            self.check(f"(sort (fn (a b) (< (first a) (first b))) '({source}))", f"({wanted})")
            source = " ".join(str(a) for a, _ in pairs)
            wanted = " ".join(str(a) for a in sorted((a for a, _ in pairs), reverse=True))
            self.check(f"(sort (fn (a b) (if (< b a) 0 #f)) '({source}))", f"({wanted})")

    def test_lists_at_the_bounds(self):
        self.assertEqual(self.values(USE + "(length (sort < (reverse (range 0 1000))))", 10 ** 7), ["1000"])
        self.check("(length (map (fn (x) x) (append (range 0 500) (range 0 500)))) (length (filter list? (map list (range 0 900))))", "1000", "900")
        # A list that is as deep as one can be, and one with as many values.
        deep = "(" * 49 + ")" * 49
        self.check(f"(length (sort (fn (a b) #f) '({deep} {deep}))) (length (reverse '({deep}))) (has? '({deep}) '{deep})", "2", "1", "#t")
        self.check("(length (sort (fn (a b) (< (first a) (first b))) (zip (range 0 990) (range 0 990))))", "990")
        self.check("(let ((l (zip (range 0 999) (range 0 999)))) (list (length (reverse l)) (length (take l 998)) (length (map (fn (x) x) l))))",
                   "(999 998 999)")

    def test_errors(self):
        self.check_error("kind", "(nth '(1 2) 2)")
        self.check_error("kind", "(length 5)")
        self.check_error("kind", "(map list 5)")
        self.check_error("count", "(length)")
        self.check_error("count", "(map (fn () 1) '(1))")
        self.check_error("fail", "(fold (fn (a b) (fail a)) 1 '(1))")


class TestLoops(LibraryCase):
    def test_each_times(self):
        self.check("(each x '() x) (each x '(1 2) (* x x)) (each x '(1 2) (def y x) (list x y)) (each x (list 1) x)", "()", "(1 4)", "((1 1) (2 2))", "(1)")
        self.check("(times x 0 x) (times x 3 x) (times x (+ 1 1) 5 (list x)) (times x 2 (times y x y))", "()", "(0 1 2)", "((0) (1))", "(() (0))")
        self.check("(let ((x '(1 2))) (each x x (* 2 x))) (let ((map 5) (range 6)) (times x 2 (list map range x)))", "(2 4)", "((5 6 0) (5 6 1))")
        told = self.values(SAY + "(each x (do (say 9) '(1 2)) (say x)) (sort < (told)) (times x (say 3) (say 5)) (sort < (told))")
        self.assertEqual(told, ["(1 2)", "(1 2 9)", "(5 5 5)", "(3 5 5 5)"])

    def test_list_of(self):
        self.check("(list-of 1) (list-of 1 (if #t)) (list-of 1 (if #f)) (list-of x (from x '(1 2))) (list-of x (from x '()))",
                   "(1)", "(1)", "()", "(1 2)", "()")
        self.check("(list-of (list x y) (from x '(1 2)) (from y '(3 4)))", "((1 3) (1 4) (2 3) (2 4))")
        self.check("(list-of (list x y) (from x (range 0 4)) (if (< 1 x)) (from y (range 0 x)) (if (< 0 y)))", "((2 1) (3 1) (3 2))")
        self.check("(list-of x (from x '((1 2) (3))) (from x x)) (list-of (list-of y (from y x)) (from x '((1 2) (3))))", "(1 2 3)", "((1 2) (3))")
        self.check("(list-of x (if 0) (from x '(1 #f 2)) (if x))", "(1 2)")
        parts = " ".join(f"(from x{k} '({k}))" for k in range(12))
        self.check(f"(list-of (list x0 x11) {parts}) (sum-of (+ x0 x11) {parts})", "((0 11))", "11")
        self.check("(list-of 1" + " (if #t)" * 12 + ")", "(1)")

    def test_sum_of(self):
        self.check("(sum-of 5) (sum-of 5 (if #f)) (sum-of x (from x '(1 2 3))) (sum-of (* x y) (from x '(1 2)) (from y '(3 4)))", "5", "0", "6", "21")
        self.check("(sum-of 1 (from x (range 0 100)) (from y (range 0 100)))", "10000")
        self.check_error("kind", "(sum-of x (from x '(#t)))")

    def test_how_often(self):
        told = self.values(SAY + "(list-of (say (+ x y)) (from x (do (say 100) '(10 20))) (from y (do (say 200) '(1 2))) (if (say 300))) (sort < (told))")
        self.assertEqual(told, ["(11 12 21 22)", "(11 12 21 22 100 200 200 300 300 300 300)"])
        told = self.values(SAY + "(list-of (say x) (from x '(1 2 3)) (if (< x 3)) (if (say 9))) (sort < (told))")
        self.assertEqual(told, ["(1 2)", "(1 2 9 9)"])

    def test_words_of_parts(self):
        # from is bound nowhere, if is the word; other names of these are others.
        self.check("(defmac my (rules () ((_ e l) (list-of e (from e l) (if #t))))) (my x '(1 2)) (let ((from 1)) (my x '(3)))", "(1 2)", "(3)")
        self.check("(let ((got 1) (more 2) (inner 3)) (list-of (list got more inner x) (from x '(1))))", "((1 2 3 1))")
        self.check("(list-of (list more got) (from more '(1 2)) (from got '(3)))", "((1 3) (2 3))")


class TestRecords(LibraryCase):
    TEXT = "(record \"pt\" pt pt? (x get-x) (y get-y)) "

    def test_records(self):
        self.check(self.TEXT + "(def p (pt 3 4)) p (get-x p) (get-y p) (pt? p)", "(\"pt\" 3 4)", "3", "4", "#t")
        self.check(self.TEXT + "(map pt? (list 1 #t list '() '(1 2 3) '(\"pt\" 1) '(\"pt\" 1 2) '(\"pt\" 1 2 3) '(\"pu\" 1 2) #'a))",
                   "(#f #f #f #f #f #f #t #f #f #f)")
        self.check("(record 7 none none?) (none) (none? (none)) (none? '(7 1)) (none? '(8))", "(7)", "#t", "#f", "#f")
        self.check("(record #f a a? (x get)) (a 1) (get (a #f)) (a? (a 1)) (a? '(#t 1))", "(#f 1)", "#f", "#t", "#f")
        for form in ("(pt 1)", "(pt 1 2 3)"):
            self.check_error("count", self.TEXT + form)

    def test_where_they_stand(self):
        self.check("(let () (record 1 a a? (x get)) (def y (a 5)) (list (get y) (a? y)))", "(5 #t)")
        self.check("((fn (z) (def w z) (record 1 a a? (x get)) (get (a w))) 6)", "6")
        self.check("(defmac my (rules () ((_ make get) (record 1 make is? (x get))))) (my a b) (my c d) (list (b (a 1)) (d (c 2)))", "(1 2)")

    def test_names(self):
        self.check("(record 1 make make? (list first) (v rest)) (make 2 3) (make? (make 2 3)) (rest (make 4 5)) (first (make 6 7))",
                   "(1 2 3)", "#t", "5", "6")
        self.check("(record 1 list list? (tag same?)) (list 2) (list? (list 2)) (same? (list 3))", "(1 2)", "#t", "3")
        fields = " ".join(f"(f{k} get-f{k})" for k in range(12))
        self.check(f"(record 1 make make? {fields}) (def r (make {' '.join(str(k) for k in range(12))})) (list (get-f0 r) (get-f7 r) (get-f11 r) (make? r))",
                   "(0 7 11 #t)")


class TestForms(LibraryCase):
    """What holds for all forms."""

    FORMS = {
        "(and (do 1 2))": "2", "(or (do 1 2))": "2", "(and)": "#t", "(or)": "#f", "(when 1 (do 1 2))": "2", "(unless #f (do 1 2))": "2",
        "(when 1 1 2)": "2", "(unless #f 1 2)": "2", "(cond (else (do 1 2)))": "2", "(cond (else 1 2))": "2", "(cond (1 (do 1 2)))": "2",
        "(case 1 (else (do 1 2)))": "2", "(case 1 ((1) 1 2))": "2", "(let* () 1 2)": "2", "(let* ((x 1)) 1 (do 1 2))": "2",
        "(loop f () 1 2)": "2", "(let-list () '() 1 2)": "2", "(let-list (x) '(1) (do 1 2))": "2", "(pipe x (do 1 2))": "2",
        "(pipe x 1 (do 1 2))": "2", "(each x '(1) 1 2)": "(2)", "(times x 1 1 2)": "(2)", "(list-of (do 1 2))": "(2)", "(sum-of (do 1 2))": "2",
        "(list-of (do 1 2) (if (do 1 #t)))": "(2)", "(or #f #f #f #f #f (do 1 2))": "2", "(and 1 2 3 4 5 (do 1 2))": "2",
    }

    def test_each_is_one_expression(self):
        for form, value in self.FORMS.items():
            self.check(form, value)
            self.check(f"(let () {form})", value)
            self.check(f"(let () (def x {form}) x)", value)
            self.check(f"(list {form} {form})", f"({value} {value})")
            artifact = made_of(USE + form, "m", ARTIFACTS).artifact()
            self.assertEqual(len(artifact[5]), 1, form)

    def test_none_takes_definitions_out(self):
        # A definition in a body of a form is one of this body, and no expression is a definition.
        for form in ("(let* ((y 1)) (def x 1) x)", "(loop f () (def x 1) x)", "(let-list (y) '(1) (def x 1) x)", "(each y '(1) (def x 1) x)"):
            self.assertEqual(outcome(self.values, USE + form + " x")[:2], ("ExpandError", "unbound"))
        for form in ("(and (def x 1))", "(or (def x 1))", "(when 1 (def x 1))", "(cond (else (def x 1)))", "(pipe x (def x 1))"):
            self.assertEqual(outcome(self.values, USE + form)[:2], ("ExpandError", "place"))

    USES = """(list (and 1 2 3) (or #f 2) (when 1 2) (unless #f 3) (cond (#f 1) (else 4)) (case 5 ((4 5) 6)) (let* ((a 1) (b a)) b)
        (loop f ((a 3)) (if (= a 0) 8 (f (- a 1)))) (let-list (a b) '(1 9) b) (pipe a 9 (+ a 1)) (each a '(1) a) (times a 2 a)
        (list-of a (from a '(1 2 3)) (if (< 1 a))) (sum-of a (from a '(1 2))) (let ((a 1) (b 2)) (swap a b) (list a b))
        (length '(1 2)) (sort < '(2 1)) (let () (record 1 p p? (q r)) (r (p 7))))"""
    GIVEN = "(3 2 2 3 4 6 1 8 9 10 (1) (0 1) (2 3) 3 (2 1) 2 (1 2) 7)"

    def test_names_of_the_program(self):
        taken = set(self.USES.replace("(", " ").replace(")", " ").replace("'", " ").split())
        inner = set()
        for text in library().values():
            inner |= set(text.replace("(", " ").replace(")", " ").replace("'", " ").split())
        names = sorted(name for name in inner if is_name(name) and name not in taken and name not in ("else", "from"))
        self.assertGreater(len(names), 40)
        for at in range(0, len(names), 12):
            group = names[at:at + 12]
            self.check(f"((fn ({' '.join(group)}) {self.USES}){' 1' * len(group)})", self.GIVEN)
            self.check(f"(let ({' '.join(f'({name} (list 1))' for name in group)}) {self.USES})", self.GIVEN)
            # What the library offers cannot be defined once more beside it, nor words that the module itself uses.
            kept = [name for name in group if name not in " ".join(OFFERS.values()).split() and name not in ("def", "defmac", "use")]
            self.check(" ".join(f"(def {name} 1)" for name in kept) + self.USES, self.GIVEN)

    def test_words_and_primitives_as_names(self):
        names = """if let fn do quote set letrec cons first rest same? syntax rules match fill join wrap letmac list list? empty?
            = + - < not""".split()
        pairs = " ".join(f"({name} {at})" for at, name in enumerate(names))
        wanted = {
            "(and if let)": "1", "(or #f do)": "3", "(cond (#f 1) (else quote))": "4", "(case 5 ((4 5) set))": "5", "(case if ((5) 1) (else fn))": "2",
            "(let* ((x fn) (y x)) y)": "2", "(loop f ((n cons)) n)": "7", "(let-list (a b) l b)": "5", "(pipe x list x)": "18",
            "(each x l x)": "(4 5)", "(times x 2 x)": "(0 1)", "(list-of x (from x l))": "(4 5)", "(sum-of x (from x l))": "9",
            "(when if rest)": "9", "(unless #f first)": "8", "(length l)": "2", "(reverse l)": "(5 4)", "(let* () (swap if let) if)": "1"}
        for form, value in wanted.items():
            self.check(f"(def l '(4 5)) (let ({pairs}) {form})", value)
        self.check(f"(def two (fn (a b) (list a b))) (let ({pairs}) (record 1 make is? (if get)) (two (get (make rest)) (is? (make if))))", "(9 #t)")

    def test_other_names(self):
        text = """(use (rename logic (and both) (or one-of) (cond choose) (case pick)) (rename binding (let* lets) (loop go)) (rename lists (length many)
            (map all)) (rename loops (list-of those) (each for)) (rename records (record kind)))
            (def and 1) (def length 2)
            (kind 1 a a? (x get))
            (list (both 1 2) (one-of #f 3) (choose (#f 1) (else 4)) (pick 5 ((5) 5)) (lets ((x 1) (y x)) y) (go f ((n 1)) (if (= n 0) 6 (f 0)))
              (many '(1 2)) (all not '(1)) (those x (from x '(7)) (if #t)) (for x '(1) x) (get (a 8)) and length)"""
        self.assertEqual(self.values(text), ["(2 3 4 5 1 6 2 (#f) (7) (1) 8 1 2)"])
        artifacts = artifacts_of({**{name: library()[name] for name in ORDER}, "k": "(use logic loops) (offer (as cond choose) (as list-of those) or)"})
        self.assertEqual(values_of("(use k) (choose (#f 1) (else (those x (from x '(1)) (if (or #f 2)))))", artifacts=artifacts), ["(1)"])

    def test_in_macros(self):
        self.check("""(defmac my-max (rules () ((_ a b) (let* ((t a) (u b)) (cond ((< t u) u) (else t))))))
            (defmac sums (rules () ((_ (x l) ...) (list (sum-of x (from x l)) ...))))
            (defmac first-big (fn (s) (match s () ((_ n l) (fill (loop next ((k l)) (cond ((empty? k) #f) ((< n (first k)) (first k)) (else (next (rest k))))))))))
            (let ((t 5) (u 3)) (list (my-max t u) (my-max u t) (sums (a '(1 2)) (b '(3))) (first-big t '(4 6 8))))""", "(5 5 (3 3) 6)")

    def test_in_one_another(self):
        self.check("(cond ((and #f 1) 1) ((or #f (case 1 ((1) #f) (else 1))) 2) (else (when 1 (unless #f (cond (else 5))))))", "5")
        self.check("(each x (times y 3 (+ y 1)) (list-of (pipe z x (* z w)) (from w (range 0 x)) (if (or (= w 1) (and (< 1 w) (< w 3))))))",
                   "(() (2) (3 6))")
        self.check("(or (or #f (or #f #f)) (or #f (let* ((t 1)) (or #f t))))", "1")
        self.check("(loop a ((x 2)) (loop b ((y x)) (cond ((= y 0) (if (= x 0) \"end\" (a (- x 1)))) (else (b (- y 1))))))", "\"end\"")
        self.check("(case (case 1 ((1) 2)) ((1) 3) ((2) (case 3 ((3) (case 4 (else 5))))))", "5")
        self.check("(sum-of (sum-of (* x y) (from y (range 0 x))) (from x (each z '(1 2 3) (+ z 1))))", "35")

    def test_levels(self):
        told = f"(def told {self.USES})"
        self.check(told + " told", self.GIVEN)
        macro = f"(defmac m (fn (s) (wrap (if (same? told '{self.GIVEN}) 1 2) s)))"
        self.assertEqual(self.values(f"(up {USE} {told}) {macro} (m)"), ["1"])
        self.assertEqual(self.values(f"(up (up {USE} {told}) {macro} (def x (m))) (defmac n (fn (s) (wrap x s))) (n)"), ["1"])
        self.assertEqual(self.values("(up (up (up (use lists) (def x (sort < '(2 1))))))"), [])

    def test_macros_with_procedures_of_the_library(self):
        self.check("""(up (use lists logic))
            (defmac backwards (fn (s) (cond ((< (length (parts s)) 3) (first (rest (parts s)))) (else (join (reverse (rest (parts s))) s)))))
            (list (backwards 5) (backwards 1 2 list))""", "(5 (2 1))")

    def test_called_otherwise(self):
        texts = {**library(), "m": "(use loops logic) (list-of (cond ((= x 1) 5) (else x)) (from x '(1 2)))"}
        made = compile_all(texts)
        before = {compiled.artifact()[1]: compiled.artifact() for compiled in made}
        fixed, named = all_fixed(made), {}
        for place, (start, end) in spelled(texts["m"])[0].items():
            if any(member in fixed for member in group(made, ("m", place))):
                continue
            named[texts["m"][start:end]] = True
            told = called_otherwise(texts, ("m", place), "zz")
            again = {compiled.artifact()[1]: compiled.artifact() for compiled in compile_all(told)}
            self.assertEqual(program(again, "m"), program(before, "m"))
            self.assertEqual(run(again, "m", 10000), [("m", "(5 2)")])
        # Also what a part of a form is told by: these are the same names in the library.
        self.assertLessEqual({"list-of", "cond", "x", "else", "from"}, set(named))

    def test_steps_and_depth(self):
        """Long forms are few steps, and not deep."""
        many = " ".join(f"((= x {k}) {k})" for k in range(11))
        made = compile_module("m", USE + f"(fn (x) (cond {many} (else 1)) (case x {' '.join(f'(({k}) 1)' for k in range(12))}))", ARTIFACTS)
        self.assertEqual(len(made.steps()), 2)
        ors = "(or #f #f #f #f #f #f #f #f #f #f #f {})"
        text = "1"
        for _ in range(4):
            text = ors.format(text)
        self.check(text, "1")
        text = "1"
        for _ in range(3):
            text = f"(cond {'(#f 1) ' * 11}(else {text}))"
        self.check(text, "1")
        uses = " ".join("(cond (#f 1) (#f 2) (else (and 1 2 3)))" for _ in range(100))
        self.assertEqual(len(self.values(USE + uses)), 100)


if __name__ == "__main__":
    unittest.main()
