"""The library: modules in the language itself, as texts.

What a macro makes of a long form it makes in one step, with procedures one level up: steps are
counted. No form is spliced: what would be one expression alone stands in an if.
"""

LOGIC = """; choices
(defmac and
  (rules ()
    ((_) #t)
    ((_ a) (if #t a #f))
    ((_ a b) (if a b #f))
    ((_ a b c) (if a (if b c #f) #f))
    ((_ a b c d) (if a (if b (if c d #f) #f) #f))
    ((_ a b c d e ...) (if (if a (if b (if c d #f) #f) #f) (and e ...) #f))))
(defmac or
  (rules ()
    ((_) #f)
    ((_ a) (if #t a #f))
    ((_ a b) (let ((t a)) (if t t b)))
    ((_ a b c) (let ((t a)) (if t t (let ((t b)) (if t t c)))))
    ((_ a b c d) (let ((t (let ((t a)) (if t t b)))) (if t t (let ((t c)) (if t t d)))))
    ((_ a b c d e ...)
      (let ((t (let ((t (let ((t a)) (if t t b)))) (if t t (let ((t c)) (if t t d))))))
        (if t t (or e ...))))))
(defmac when
  (rules ()
    ((_ c) (if c #f #f))
    ((_ c e) (if c e #f))
    ((_ c e ...) (if c (do e ...) #f))))
(defmac unless
  (rules ()
    ((_ c) (if c #f #f))
    ((_ c e) (if c #f e))
    ((_ c e ...) (if c #f (do e ...)))))
(up
  (def choice (fn (c a b) (join (list #'if c a b) c)))
  ; an expression with the value of the last one of some
  (def in-turn
    (fn (l)
      (if (empty? l) #'#f (if (empty? (rest l)) (first l) (join (cons #'do l) (first l))))))
  (def is-else (fn (head left) (if (empty? left) (match head (else) (else #t) (_ #f)) #f)))
  ; the choices of some clauses; test-of makes the test of what a clause begins with
  (def choices
    (fn (test-of l)
      (if (empty? l)
        #'#f
        (match (first l) ()
          ((head e ...)
            (if (is-else head (rest l))
              (in-turn e)
              (choice (test-of head) (in-turn e) (choices test-of (rest l)))))))))
  ; whether one of some tests holds: pairs of pairs, so that they are not deep in one another
  (def in-pairs
    (fn (l)
      (if (empty? l)
        l
        (if (empty? (rest l))
          l
          (cons (choice (first l) #'#t (first (rest l))) (in-pairs (rest (rest l))))))))
  (def any-of
    (fn (l) (if (empty? l) #'#f (if (empty? (rest l)) (first l) (any-of (in-pairs l))))))
  (def tests
    (fn (t l)
      (if (empty? l)
        l
        (match (join (list t (first l)) t) ()
          ((t v) (cons (fill (same? t 'v)) (tests t (rest l)))))))))
(defmac cond
  (fn (s)
    (match s (else)
      ((_ (else e ...)) (choice #'#t (in-turn e) #'#f))
      ((_ clause ...) (choices (fn (c) c) clause)))))
(defmac case
  (fn (s)
    (match (join (cons #'t (rest (parts s))) s) ()
      ((t e clause ...)
        (match (choices (fn (v) (any-of (tests t (parts v)))) clause) ()
          (c (fill (let ((t e)) c))))))))
(offer and or when unless cond case)
"""

BINDING = """; forms that bind
(def listed (fn (l) (if (list? l) l (first l))))
(def part (fn (l n) (if (= n 0) (first l) (part (rest l) (- n 1)))))
(up
  (def let-of (fn (pair forms) (join (cons #'let (cons (join (list pair) pair) forms)) pair)))
  (def lets-of
    (fn (pairs forms)
      (let-of (first pairs) (if (empty? (rest pairs)) forms (list (lets-of (rest pairs) forms))))))
  (def pipe-of
    (fn (x l)
      (if (empty? (rest l))
        (first l)
        (let-of (join (list x (first l)) x) (list (pipe-of x (rest l)))))))
  (def numbers (fn (l n) (if (empty? l) l (cons (wrap n #'n) (numbers (rest l) (+ n 1)))))))
(defmac let*
  (fn (s)
    (match s ()
      ((_ () form ...) (fill (let () form ...)))
      ((_ (pair ...) form ...) (lets-of pair form)))))
(defmac loop
  (rules ()
    ((_ name ((x e) ...) form ...) ((letrec ((name (fn (x ...) form ...))) name) e ...))))
(defmac swap (rules () ((_ a b) (let ((t a)) (set a b) (set b t)))))
(defmac let-list
  (fn (s)
    (match s ()
      ((_ (x ...) e form ...)
        (match (join (numbers x 0) s) ()
          ((n ...)
            (fill (let ((l (listed e))) (let ((x (part l n)) ...) form ...)))))))))
(defmac pipe
  (fn (s)
    (match s ()
      ((_ x e) (fill (if #t e #f)))
      ((_ x e ...) (pipe-of x e)))))
(offer let* loop swap let-list pipe)
"""

LISTS = """; procedures for lists
(def count-on (fn (l n) (if (empty? l) n (count-on (rest l) (+ n 1)))))
(def length (fn (l) (count-on l 0)))
(def fold (fn (f v l) (if (empty? l) v (fold f (f v (first l)) (rest l)))))
(def fold-back (fn (f v l) (if (empty? l) v (f (first l) (fold-back f v (rest l))))))
(def put-ahead (fn (l done) (if (empty? l) done (put-ahead (rest l) (cons (first l) done)))))
(def reverse (fn (l) (put-ahead l '())))
(def append (fn (a b) (if (empty? a) b (cons (first a) (append (rest a) b)))))
(def map (fn (f l) (if (empty? l) l (cons (f (first l)) (map f (rest l))))))
(def filter
  (fn (f l)
    (if (empty? l)
      l
      (if (f (first l)) (cons (first l) (filter f (rest l))) (filter f (rest l))))))
(def all-of? (fn (f l) (if (empty? l) #t (if (f (first l)) (all-of? f (rest l)) #f))))
(def some-of?
  (fn (f l)
    (if (empty? l) #f (let ((v (f (first l)))) (if v v (some-of? f (rest l)))))))
(def has? (fn (l v) (if (empty? l) #f (if (same? (first l) v) #t (has? (rest l) v)))))
(def nth (fn (l n) (if (= n 0) (first l) (nth (rest l) (- n 1)))))
(def take
  (fn (l n) (if (empty? l) l (if (= n 0) '() (cons (first l) (take (rest l) (- n 1)))))))
(def drop (fn (l n) (if (empty? l) l (if (= n 0) l (drop (rest l) (- n 1))))))
(def count-down
  (fn (n m done) (if (< n m) (count-down n (- m 1) (cons (- m 1) done)) done)))
(def range (fn (n m) (count-down n m '())))
(def zip
  (fn (a b)
    (if (empty? a)
      a
      (if (empty? b) b (cons (list (first a) (first b)) (zip (rest a) (rest b)))))))
(def merge
  (fn (f a b)
    (if (empty? a)
      b
      (if (empty? b)
        a
        (if (f (first b) (first a))
          (cons (first b) (merge f a (rest b)))
          (cons (first a) (merge f (rest a) b)))))))
; sort takes the parts from left one by one; halves has the lengths of what is merged
(def sort
  (fn (f l)
    (let ((left l))
      (def sorted
        (fn (n halves)
          (if (= n 1)
            (let ((v (first left))) (set left (rest left)) (list v))
            (if (< (first halves) n)
              (let ((a (sorted (first halves) (rest halves))))
                (merge f a (sorted (- n (first halves)) (rest halves))))
              (sorted n (rest halves))))))
      (if (empty? l) l (sorted (length l) '(512 256 128 64 32 16 8 4 2 1))))))
(offer length fold fold-back reverse append map filter all-of? some-of? has? nth take drop)
(offer range zip sort)
"""

LOOPS = """; loops over lists and numbers
(use lists)
(defmac each (rules () ((_ x l form ...) (map (fn (x) form ...) l))))
(defmac times (rules () ((_ x n form ...) (map (fn (x) form ...) (range 0 n)))))
(up
  ; what some parts make of got, what was gathered so far; with-one adds what one way gives to it
  (def ways
    (fn (l with-one got)
      (if (empty? l)
        (with-one got)
        (match (first l) (from if)
          ((from x m)
            (match (join (list got #'more) #'if) ()
              ((got more)
                (match (ways (rest l) with-one more) ()
                  (inner (fill (fold-back (fn (x more) inner) got m)))))))
          ((if c)
            (match (join (list got (ways (rest l) with-one got)) #'if) ()
              ((got inner) (fill (if c inner got))))))))))
(defmac list-of
  (fn (s)
    (match s ()
      ((_ e p ...) (ways p (fn (g) (match g () (got (fill (cons e got))))) #''())))))
(defmac sum-of
  (fn (s)
    (match s ()
      ((_ e p ...) (ways p (fn (g) (match g () (got (fill (+ e got))))) #'0)))))
(offer each times list-of sum-of)
"""

RECORDS = """; records: lists of a tag and of the fields
(use lists)
(def is-record
  (fn (v tag many) (if (list? v) (if (= (length v) many) (same? (first v) tag) #f) #f)))
(up
  (def numbers (fn (l n) (if (empty? l) l (cons (wrap n #'n) (numbers (rest l) (+ n 1))))))
  (def more-than (fn (l n) (if (empty? l) n (more-than (rest l) (+ n 1))))))
(defmac record
  (fn (s)
    (match s ()
      ((_ tag make is? (field get) ...)
        (match (join (cons (wrap (more-than field 1) s) (numbers field 1)) s) ()
          ((many n ...)
            (fill
              (do
                (def make (fn (field ...) (list tag field ...)))
                (def is? (fn (v) (is-record v tag many)))
                (def get (fn (r) (nth r n))) ...))))))))
(offer record)
"""


def library():
    """Return a dict from the names of the modules to their texts."""
    return {"binding": BINDING, "lists": LISTS, "logic": LOGIC, "loops": LOOPS, "records": RECORDS}
