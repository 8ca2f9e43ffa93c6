"""Random modules with macros, from few names, so that much is called alike."""

NAMES = ["x", "y", "m", "n", "list", "k"]
JOINED = "(join (list #'list (first (rest (parts s)))) s)"


class RandomModules:
    """Texts that mostly can be read as forms with macros; many of them do not compile."""

    def __init__(self, rng):
        self.rng = rng
        # The names of macros that may be used where something is made now.
        self.macros = []

    def name(self):
        return self.rng.choice(NAMES)

    def expression(self, deep, known):
        rng = self.rng
        if deep <= 0 or rng.random() < 0.2:
            return rng.choice([rng.choice(known) if known else "1", "1", "2", self.name() if rng.random() < 0.15 else "3"])
        makers = [self.listing, self.let, self.procedure, self.choice, self.setting, self.local_macro, self.use, self.use, self.use]
        return rng.choice(makers)(deep - 1, known)

    def expressions(self, many, deep, known):
        return " ".join(self.expression(deep, known) for _ in range(many))

    def listing(self, deep, known):
        return f"(list {self.expressions(self.rng.randrange(3), deep, known)})"

    def let(self, deep, known):
        name = self.name()
        return f"(let (({name} {self.expression(deep, known)})) {self.body(deep, [*known, name])})"

    def procedure(self, deep, known):
        name = self.name()
        return f"(fn ({name}) {self.body(deep, [*known, name])})"

    def choice(self, deep, known):
        return f"(if {self.expressions(3, deep, known)})"

    def setting(self, deep, known):
        return f"(set {self.rng.choice(known or ['x'])} {self.expression(deep, known)})"

    def local_macro(self, deep, known):
        name, word = self.name(), self.rng.choice(["letmac", "recmac"])
        macro = self.macro(deep, known)
        self.macros.append(name)
        body = self.body(deep, known)
        self.macros.pop()
        return f"({word} (({name} {macro})) {body})"

    def use(self, deep, known):
        if not self.macros:
            return f"(do {self.expressions(2, deep, known)})"
        parts = [self.rng.choice([self.name(), self.expression(deep, known)]) for _ in range(self.rng.choice([1, 2, 2, 2, 3]))]
        return f"({self.rng.choice(self.macros)} {' '.join(parts)})"

    def body(self, deep, known):
        known, before, forms = list(known), len(self.macros), []
        while self.rng.random() < 0.35 and deep > 0:
            forms.append(self.definition(deep - 1, known))
        forms.append(self.expression(deep, known))
        del self.macros[before:]
        return " ".join(forms)

    def definition(self, deep, known):
        name, pick = self.name(), self.rng.random()
        if pick < 0.6:
            text = f"(def {name} {self.expression(deep, known)})"
            known.append(name)
        elif pick < 0.85:
            text = f"(defmac {name} {self.macro(deep, known)})"
            self.macros.append(name)
        else:
            text = self.use(deep, known)
        return text

    def template(self, a, b, deep, known):
        """What a macro makes of two variables."""
        rng = self.rng
        return rng.choice([
            self.expression(deep, [*known, a, b]), f"(let (({rng.choice(['x', a])} 1)) (list {a} {b}))",
            f"(do (def {rng.choice([a, 'x', 'y'])} {b}) {rng.choice([f'(list {a})', f'(def {a} 5)', '(def x 5)'])})",
            f"(defmac {a} (rules () ((_ z) (list z {b}))))", f"({rng.choice([*self.macros, 'list'])} {a} {b})"])

    def macro(self, deep, known):
        rng = self.rng
        a, b = rng.sample(["a", "b", "x", "y", "e"], 2)
        made = self.template(a, b, deep, known)
        pick = rng.random()
        if pick < 0.6:
            more = [f"((_ {a}) {self.expression(deep, [*known, a])})", f"((_ {a} {b} ...) (list {b} ...))", ""]
            literal = f"((_ {rng.choice(['k', 'x'])} {b}) {self.expression(deep, [*known, b])})" if rng.random() < 0.3 else ""
            return f"(rules ({rng.choice(['', 'k', 'x'])}) {literal} ((_ {a} {b}) {made}) {rng.choice(more)})"
        if pick < 0.9:
            more = [f"((_ {a}) (wrap (free=? {a} #'{self.name()}) s))", f"((_ {a} w z) (wrap (bound=? {a} z) s))",
                    f"((_ {a}) (match (fresh {a}) () (g (fill (let ((g 2)) (list g {a}))))))", ""]
            return f"(fn (s) (match s ({rng.choice(['', 'k'])}) ((_ {a} {b}) (fill {made})) {rng.choice(more)}))"
        return f"(fn (s) {rng.choice(['(first (rest (parts s)))', f'(syntax {self.name()})', JOINED])})"

    def module(self, others):
        """The text of a module that uses others."""
        rng = self.rng
        self.macros, known, forms = [], [], []
        for other in others:
            forms.append(rng.choice(["(use {})", "(use {})", "(up (use {}))", "(use (except {}))", "(use (only {}))"]).format(other))
            self.macros.append(rng.choice(["m", "n"]))
        for _ in range(rng.randrange(2, 6)):
            pick = rng.random()
            if pick < 0.6:
                forms.append(self.definition(2, known))
            elif pick < 0.7:
                forms.append(f"(up (def {self.name()} {self.expression(1, [])}))")
            else:
                forms.append(self.expression(3, known))
        forms.append(rng.choice(["(offer (all))", "", f"(offer {rng.choice(known or ['x'])})"]))
        return " ".join(forms)

    def modules(self):
        """Up to three modules, each of which uses those ahead of it."""
        texts = {}
        for name in "abc"[:self.rng.choice([1, 2, 2, 3])]:
            texts[name] = self.module(list(texts))
        return texts


class WildForms:
    """Texts of forms that are put together without much care: most are wrong somewhere."""

    LEAVES = ["x", "y", "m", "a", "b", "s", "k", "list", "if", "fn", "def", "do", "fill", "+", "first", "wrap", "free=?", "1", "0", "#t",
              "#f", "\"s\"", "...", "_"]
    SPECS = ["a", "count", "logic", "(only logic cond)", "(rename count (bump x))", "(except count three)", "(only a)"]
    OFFERS = ["x", "(all)", "(as x y)", "m", "(as m x)"]

    def __init__(self, rng):
        self.rng = rng

    def name(self):
        return self.rng.choice(["x", "y", "m", "a", "b", "k", "list", "if"])

    def form(self, deep):
        rng = self.rng
        if deep <= 0 or rng.random() < 0.35:
            return rng.choice(self.LEAVES)
        shape = rng.choice([
            "'F", "#'F", "(F F)", "(F F F)", "()", "(def N F)", "(def N F)", "(defmac N F)", "(fn (N) F)", "(let ((N F)) F F)",
            "(letrec ((N F)) F F)", "(letmac ((N F)) F F)", "(recmac ((N F)) F)", "(match F () (F F) (N F))", "(match F (k) (F F))",
            "(fill F)", "(rules (k) ((_ N) F) (_ F))", "(if F F F)", "(set N F)", "(do F F)", "(up F F)", "(use U)", "(offer O)",
            "(defmac N (fn (s) (match s () ((_ a b) F) ((_ a) (fill (do (def x 1) a))) (a #'F))))",
            "(defmac N (fn (s) (match s () ((_ a b) (fill (def a 1))) ((_ a) a))))",
            "(defmac N (rules (k) ((_ k) F) ((_ a) F) ((_ a ...) (do a ...))))",
            "(defmac N (fn (s) (match s () ((_ m a ...) ((local-value m) (fill (m a ...)))) ((_ a) (recolored #'x a)))))",
            "(defmac N (fn (s) (match s () ((_ a) (match (fresh a) () (f (fill (let ((f 1)) a))))) ((_ a b) (join (list a b) s)))))"])
        pieces = []
        for sign in shape:
            pieces.append({"F": lambda: self.form(deep - 1), "N": self.name, "U": lambda: rng.choice(self.SPECS),
                           "O": lambda: rng.choice(self.OFFERS)}.get(sign, lambda: sign)())
        return "".join(pieces)

    def text(self):
        head = ""
        if self.rng.random() < 0.6:
            head = """(defmac m (rules (k) ((_ k) 1) ((_ a) a) ((_ a b) (def a b)))) (def x 1)
                (defmac y (fn (s) (match s () ((_ a) (fill (list a x)))))) """
        forms = [self.form(self.rng.randrange(2, 6)) for _ in range(self.rng.randrange(1, 5))]
        return (head + " ".join(forms))[:6000]
