"""Modules for tests: rich ones, of which each compiles with those that it uses."""

SAMPLES = {
    "swap": """
        (defmac swap (rules () ((_ a b) (let ((t a)) (set a b) (set b t)))))
        (def t 1) (def u 2) (swap t u) (list t u)
        (let ((t 5) (if 6)) (swap t if) (list t if))
        """,
    "logic": """
        (defmac my-or (rules () ((_) #f) ((_ e) e) ((_ e f ...) (let ((t e)) (if t t (my-or f ...))))))
        (defmac cond (rules (else)
          ((_) #f)
          ((_ (else e f ...)) (do e f ...))
          ((_ (c e f ...) g ...) (if c (do e f ...) (cond g ...)))))
        (def t 5)
        (offer (all))
        (my-or #f t)
        (let ((if list)) (my-or #f (if 1 2)))
        (cond (#f 1) (else t 2))
        """,
    "count": """
        ; a variable that is hidden by the module
        (def hidden 10)
        (def step (fn (n) (set hidden (+ hidden n)) hidden))
        (defmac bump (rules () ((_) (step 1)) ((_ n) (step n))))
        (up (def hidden 3) (def told (fn () hidden)))
        (defmac three (fn (s) (wrap (told) s)))
        (offer bump (as step advance) three)
        (bump) (bump 5) (three)
        """,
    "user": """
        (use logic (only count bump three) (rename count (advance go)))
        (def step (fn (x) (* x 2)))
        (def hidden 7)
        (list (bump) (go 3) (step hidden) (three))
        (my-or #f hidden)
        (cond ((< 2 1) 0) (else (bump 2)))
        (offer (all) (as bump bump!))
        """,
    "high": """
        (up (use logic) (use (except count three))
            (def size (fn (l) (cond ((empty? l) 0) (else (+ 1 (size (rest l)))))))
            (defmac twice (rules () ((_ e) (+ e e)))))
        (use (only user bump!))
        (defmac length-of (fn (s) (wrap (twice (size (parts s))) s)))
        (defmac bumped (fn (s) (wrap (bump 4) s)))
        (list (length-of a b c) (bumped) (bumped))
        (bump!)
        """,
    "matcher": """
        (up (def twice (fn (s) (fill (list s s)))) (match #'1 () (x (twice x))))
        (defmac my-let (fn (s)
          (match s ()
            ((_ name ((x e) ...) b c ...) (if (identifier? name)
               (fill ((letrec ((name (fn (x ...) b c ...))) name) e ...))
               (fail 1)))
            ((_ ((x e) ...) b ...) (fill ((fn (x ...) b ...) e ...))))))
        (defmac sum (fn (s)
          (match s (by)
            ((_ x by n) (fill (* n x)))
            ((_ (x y ...) ...) (fill (list (+ x (list-sum y ...)) ...))))))
        (defmac list-sum (rules () ((_) 0) ((_ a b ...) (+ a (list-sum b ...)))))
        (my-let loop ((n 3) (got 0)) (if (= n 0) got (loop (- n 1) (+ got n))))
        (sum 4 by 5)
        (sum (1 2 3) (4) (5 6))
        (let ((list 1) (x 2)) (sum (x list)))
        """,
    "hygiene": """
        (def if-hit (fn (x) (+ x 1)))
        (defmac ten (rules () ((_ body) (let ((x 10)) body))))
        (defmac capture (fn (s)
          (match s () ((k body) (let ((x (recolored k #'it))) (join (list #'let (join (list (join (list x #'10) s)) s) body) s))))))
        (defmac define-getter (rules () ((_ name value) (do (def hidden value) (def name (fn () hidden))))))
        (define-getter one 1) (define-getter two 2)
        (let ((x 1)) (ten (if-hit x)))
        (capture (* it it))
        (list (one) (two))
        ((fn (x)
           (define-getter get x)
           (defmac also (rules () ((_ y) (def y (get)))))
           (also z)
           (let ((get z)) (list get z))) 9)
        """,
    "nested": """
        (defmac make (rules ()
          ((_ name v ...) (defmac name (rules (v ...) ((_ v) 'v) ... ((_ other) 'none))))))
        (defmac deep (rules ()
          ((_ (a ...) ...) (letmac ((inner (rules () ((_ (b (... ...)) (... ...)) '((b (... ...) 0) (... ...))))))
                             (inner (a ...) ...)))))
        (deep (1 2) (3) ())
        (recmac ((even (rules () ((_) #t) ((_ x y ...) (odd y ...)))) (odd (rules () ((_) #f) ((_ x y ...) (even y ...)))))
          (list (even 1 2) (even 1 2 3)))
        (let ((x 3)) (defmac get (rules () ((_) x))) (def y (get)) (let ((x 4)) (list x y (get))))
        """,
    "tools": """
        (defmac same (fn (s) (match s () ((_ a b) (wrap (free=? a b) s)))))
        (defmac binders (fn (s) (match s () ((_ a b) (wrap (bound=? a b) s)))))
        (defmac new (fn (s) (match s () ((_ a b) (let ((f (fresh a))) (fill (let ((f b)) (list f a))))))))
        (defmac call (fn (s) (match s () ((_ m a ...) ((local-value m) (fill (m a ...)))))))
        (defmac pick (rules (same else) ((_ same) 1) ((_ else) 2) ((_ x) 3)))
        (def a 5)
        (list (same a a) (same a b) (same b b) (same if if) (binders a a) (binders a b))
        (new a 6)
        (call pick same) (call pick else) (call pick a)
        (letmac ((here (rules () ((_ x) (list x x))))) (call here a))
        (offer (all))
        """,
}

# The order in which they can be compiled.
ORDER = ["count", "hygiene", "logic", "matcher", "nested", "swap", "tools", "user", "high"]
