"""Compiling once more, in the plainest way, point by point: for comparing on random modules.

Only reading, resolving, rules, patterns, templates and evaluating are those of the program.
"""

from wherewritten.blocks import block_of
from wherewritten.errors import ExpandError, RulesError, RunError
from wherewritten.expanding import NoExpansion
from wherewritten.machine import Machine
from wherewritten.patterns import PatternMaker
from wherewritten.reading import offsets, read
from wherewritten.resolving import resolve, same_binder
from wherewritten.rules import Rules
from wherewritten.showing import show
from wherewritten.syntax import depth, identifiers, size, syntax_of, datum_of
from wherewritten.templates import Template
from wherewritten.terms import primitives
from wherewritten.values import is_list_small, value_of

CORE = ("core", 0, 0)
WORDS = ("fn if set let letrec do quote syntax rules letmac recmac def defmac up use offer only except rename as all match "
         "fill").split()
NOWHERE = ("def", "defmac", "up", "use", "offer", "only", "except", "rename", "as", "all")


def at(s):
    return s[3] if s[0] == "atom" else s[2]


def mapped(s, change):
    """Syntax in which a function of each set, taken as a Python set, gave the new one."""
    if s[0] == "id":
        return (*s[:3], tuple(sorted(change(set(s[3])))))
    if s[0] == "atom":
        return s
    return ("list", tuple(mapped(part, change) for part in s[1]), s[2])


def add(s, scope):
    return mapped(s, lambda scopes: scopes | {scope})


def parts_of(term):
    """The terms and the syntax in a term, in order."""
    kind = term[0]
    if kind in ("syntax", "rules", "pattern", "template"):
        return [], [term[1]]
    parts = {"fn": lambda: [term[2]], "call": lambda: [term[1], *term[2]], "if": lambda: term[1:], "do": lambda: term[1],
             "rec": lambda: [*(part for _, part in term[1]), term[2]], "set": lambda: term[1:]}.get(kind, list)()
    return parts, []


def all_syntax(term):
    parts, found = parts_of(term)
    for part in parts:
        found = found + all_syntax(part)
    return found


def changed_term(term, change):
    if term[0] in ("syntax", "rules", "pattern"):
        return (term[0], mapped(term[1], change))
    if term[0] == "template":
        rows = tuple((name, tuple(sorted(change(set(scopes)))), k, deep) for name, scopes, k, deep in term[2])
        return ("template", mapped(term[1], change), rows)
    if term[0] == "fn":
        return ("fn", term[1], changed_term(term[2], change))
    if term[0] == "call":
        return ("call", changed_term(term[1], change), tuple(changed_term(part, change) for part in term[2]), term[3])
    if term[0] == "do":
        return ("do", tuple(changed_term(part, change) for part in term[1]))
    if term[0] in ("if", "set"):
        return (term[0], *(changed_term(part, change) for part in term[1:]))
    if term[0] == "rec":
        return ("rec", tuple((n, changed_term(part, change)) for n, part in term[1]), changed_term(term[2], change))
    return term


class Around(NoExpansion):
    """What expanding procedures find; without a use nothing is expanded."""

    def __init__(self, plain, use=None, phase=0, env=()):
        self.plain, self.use, self.phase, self.env = plain, use, phase, env

    def link(self, first, second):
        self.plain.add_link(first, second)

    def demand(self, occurrence):
        if self.use is None:
            raise RunError("expanding", occurrence)

    def compared(self, first, second, occurrence):
        self.demand(occurrence)
        return self.plain.compare(self.phase, first, second)

    def freshened(self, identifier, occurrence):
        self.demand(occurrence)
        return add(identifier, self.plain.scope("fresh", at(self.use)))

    def looked_up(self, identifier, occurrence):
        self.demand(occurrence)
        _, row = self.plain.look(self.phase, identifier)
        if row is None or row[3][0] not in ("macro", "own") or (row[3][0] == "own" and row[3] not in self.env):
            raise RunError("macro", occurrence)
        return self.plain.value_of_macro(row[3], self.phase)


class Plain:
    def __init__(self, module, text, artifacts):
        self.module, self.text, self.artifacts = module, text, artifacts
        self.table = [(phase, word, (CORE,), ("word", word), None) for phase in range(4) for word in WORDS]
        self.table += [(phase, name, (CORE,), ("prim", name), None) for phase in range(4) for name in primitives()]
        self.core = len(self.table)
        self.own_rows, self.scopes, self.steps, self.ready, self.log = [], [], [], [], []
        self.uses, self.offers, self.offer_specs, self.items, self.defined = [], [], [], [], []
        self.arrows, self.links, self.fixed, self.tales = set(), set(), set(), {}
        self.counts, self.values, self.home, self.depths = {}, {}, {}, {}
        self.machine = Machine(100000, Around(self))
        self.use_sites = {0: set()}

    def compile(self):
        forms = read(self.text)
        own = self.scope("module", None)
        starts = offsets(self.text)
        for place, start in enumerate(starts):
            if self.text[start] in "'#" and place > 0 and starts[place - 1] == start:
                self.fixed.add((self.module, place))
        self.group([syntax_of(self.module, form, tuple(sorted([CORE, own]))) for form in forms], 0, None)
        return self

    # What is counted, bound and noted.

    def scope(self, kind, occurrence):
        self.scopes.append((kind, occurrence))
        return (self.module, len(self.scopes) - 1, 0)

    def count(self, what):
        self.counts[what] = self.counts.get(what, 0) + 1
        return self.counts[what] - 1

    def bind(self, phase, x, target):
        if any(row[:3] == (phase, x[1], x[3]) for row in self.table):
            raise ExpandError("double", at(x))
        self.add_row((phase, x[1], x[3], target, at(x)))

    def add_row(self, row):
        self.table.append(row)
        self.own_rows.append(row)

    def ask(self, phase, x):
        outcome = resolve(self.table, phase, x)
        return outcome[0], self.table[outcome[1]] if outcome[0] == "bound" else None

    def note(self, phase, x, kind, row):
        self.log.append(("look", phase, x, None if row is None else row[3]))
        tale = self.tales.setdefault(at(x), [])
        entry = (phase, x[3], kind, None if row is None else row[3])
        if entry not in tale:
            tale.append(entry)
        if row is not None and row[4] is not None and row[4] != at(x):
            self.arrows.add((at(x), row[4]))
        if row is not None and row[3][0] in ("word", "prim"):
            self.fixed.add(at(x))

    def look(self, phase, x):
        kind, row = self.ask(phase, x)
        self.note(phase, x, kind, row)
        return kind, row

    def tell(self, phase, x, y):
        (one, row), (other, second) = self.ask(phase, x), self.ask(phase, y)
        if "ambiguous" in (one, other):
            return None
        if row is not None and second is not None:
            return row[3] == second[3]
        return row is None and second is None and x[1] == y[1]

    def compare(self, phase, x, y):
        self.look(phase, x)
        self.look(phase, y)
        told = self.tell(phase, x, y)
        self.log.append(("compare", phase, x, y, told))
        if told and self.ask(phase, x)[1] is None:
            self.add_link(x, y)
        return told

    def add_link(self, x, y):
        if at(x) != at(y):
            self.links.add(tuple(sorted([at(x), at(y)])))

    def late(self, start):
        for entry in self.log[start:]:
            if entry[0] == "compare":
                _, phase, x, y, told = entry
                wrong = self.tell(phase, x, y) != told
            else:
                _, phase, x, target = entry
                row = self.ask(phase, x)[1]
                if target is not None:
                    wrong = row is None or row[3] != target
                else:
                    wrong = row is not None and row[3][0] in ("word", "macro", "own")
            if wrong:
                raise ExpandError("late", at(x))

    # Evaluating.

    def evaluate(self, term, phase, occurrence):
        try:
            return self.machine.run(block_of(term, phase))
        except RunError as error:
            raise ExpandError("run " + error.code, occurrence) from None

    def value_of_macro(self, target, phase):
        return self.values[target] if target[0] == "own" else self.values[(target[1], phase - target[2], *target[2:])]

    def use(self, s, target, phase, env, context):
        if len(self.steps) == 500:
            raise ExpandError("steps", at(s))
        value = self.value_of_macro(target, phase)
        if value[0] not in ("closure", "prim", "rules", "pattern", "template"):
            raise ExpandError("macro", at(s))
        home = self.home.get(target) if target[0] == "own" else 0 if target[1] == self.module else None
        handed = s
        if home == context:
            site = self.scope("use-site", at(s))
            self.use_sites[context].add(site)
            handed = add(handed, site)
        new = self.scope("introduction", at(s))
        try:
            result = self.machine.apply_within(Around(self, s, phase, env), value, [("syntax", add(handed, new))], at(s))
        except RunError as error:
            raise ExpandError("run " + error.code, at(s)) from None
        if result[0] != "syntax":
            raise ExpandError("result", at(s))
        result = mapped(result[1], lambda scopes: scopes ^ {new})
        if size(result) > 3000 or depth(result) > 100:
            raise ExpandError("size", at(s))
        self.steps.append((at(s), phase, target, show(datum_of(s)), show(datum_of(result))))
        return result

    # Expressions.

    def head(self, s, phase, env):
        """What the identifier that s is, or that is its first part, is bound to; a macro is in the environment."""
        x = s[1][0] if s[0] == "list" and s[1] else s
        if x[0] != "id":
            return None
        row = self.look(phase, x)[1]
        if row is not None and row[3][0] == "own" and row[3] not in env:
            raise ExpandError("scope", at(x))
        return row

    def expand(self, s, phase, env, around, context):
        if around > 40:
            raise ExpandError("deep", at(s))
        if s[0] == "atom":
            if s[1] in ("dots", "wild"):
                raise ExpandError("form", at(s))
            return ("const", s[1:3])
        row = self.head(s, phase, env)
        target = ("none",) if row is None else row[3]
        if target[0] in ("macro", "own"):
            return self.expand(self.use(s, target, phase, env, context), phase, env, around, context)
        if s[0] == "id":
            return self.reference(s, target, phase, env)
        if target[0] == "word":
            if target[1] in NOWHERE:
                raise ExpandError("place", at(s))
            return getattr(self, "word_" + target[1])(s, s[1][1:], phase, env, around, context)
        if not s[1]:
            raise ExpandError("form", at(s))
        terms = [self.expand(part, phase, env, around + 1, context) for part in s[1]]
        return ("call", terms[0], tuple(terms[1:]), at(s))

    def reference(self, s, target, phase, env):
        if target[0] == "none":
            raise ExpandError(self.ask(phase, s)[0], at(s))
        if target[0] == "local":
            if target not in env:
                raise ExpandError("scope", at(s))
            return ("local", target[2], at(s))
        if target[0] == "word":
            raise ExpandError("word", at(s))
        return target if target[0] == "prim" else (*target, at(s))

    def form(self, truth, s):
        if not truth:
            raise ExpandError("form", at(s))

    def each(self, parts, phase, env, around, context):
        return [self.expand(part, phase, env, around + 1, context) for part in parts]

    def word_quote(self, s, parts, phase, env, around, context):
        def plain(d):
            if d[0] == "list":
                value = ("list", tuple(plain(part) for part in d[1]))
                self.form(is_list_small(value_of(value)), s)
                return value
            self.form(d[0] == "atom" and d[1] in ("number", "flag", "text"), s)
            return d[1:3]
        self.form(len(parts) == 1, s)
        return ("const", plain(parts[0]))

    def word_syntax(self, s, parts, phase, env, around, context):
        self.form(len(parts) == 1, s)
        return ("syntax", parts[0])

    def word_rules(self, s, parts, phase, env, around, context):
        try:
            Rules(s)
        except RulesError as error:
            raise ExpandError(error.code, error.occurrence) from None
        for clause in parts[1:]:
            pattern, template = clause[1]
            inner = [x for part in pattern[1][1:] for x in identifiers(part)]
            self.inner_arrows(inner, parts[0][1])
            variables = [x for x in inner if not any(same_binder(x, literal) for literal in parts[0][1])]
            self.inner_arrows(identifiers(template), variables)
        return ("rules", s)

    def inner_arrows(self, uses, binders):
        """From each identifier to the first of some binders that it is."""
        for x in uses:
            told = [at(binder) for binder in binders if same_binder(x, binder)]
            if told and told[0] != at(x):
                self.arrows.add((at(x), told[0]))

    def word_if(self, s, parts, *rest):
        self.form(len(parts) == 3, s)
        return ("if", *self.each(parts, *rest))

    def flat(self, terms):
        terms = [inner for term in terms for inner in (term[1] if term[0] == "do" else [term])]
        return terms[0] if len(terms) == 1 else ("do", tuple(terms))

    def word_do(self, s, parts, *rest):
        self.form(len(parts) > 0, s)
        return self.flat(self.each(parts, *rest))

    def word_set(self, s, parts, phase, env, around, context):
        self.form(len(parts) == 2 and parts[0][0] == "id", s)
        x, e = parts
        kind, row = self.look(phase, x)
        if row is None:
            raise ExpandError(kind, at(x))
        target = row[3]
        if target[0] == "local" and target not in env:
            raise ExpandError("scope", at(x))
        if target[0] != "local" and target[:3] != ("top", self.module, phase):
            raise ExpandError("set", at(x))
        variable = ("local", target[2], at(x)) if target[0] == "local" else (*target, at(x))
        return ("set", variable, self.expand(e, phase, env, around + 1, context))

    def no_doubles(self, xs):
        for k, x in enumerate(xs):
            if any(same_binder(x, other) for other in xs[:k]):
                raise ExpandError("double", at(x))

    def new_locals(self, xs, phase, env):
        targets = []
        for x in xs:
            targets.append(("local", self.module, self.count("local")))
            self.bind(phase, x, targets[-1])
            env.add(targets[-1])
        return tuple(target[2] for target in targets)

    def procedure(self, s, xs, forms, phase, env, around):
        self.no_doubles(xs)
        scope, env = self.scope("fn", at(s)), set(env)
        numbers = self.new_locals([add(x, scope) for x in xs], phase, env)
        return ("fn", numbers, self.body(at(s), [add(form, scope) for form in forms], phase, env, around + 1))

    def word_fn(self, s, parts, phase, env, around, context):
        self.form(len(parts) > 1 and parts[0][0] == "list" and all(x[0] == "id" for x in parts[0][1]), s)
        return self.procedure(s, parts[0][1], parts[1:], phase, env, around)

    def pairs(self, s, parts):
        self.form(len(parts) > 1 and parts[0][0] == "list", s)
        for pair in parts[0][1]:
            self.form(pair[0] == "list" and len(pair[1]) == 2 and pair[1][0][0] == "id", s)
        return [pair[1][0] for pair in parts[0][1]], [pair[1][1] for pair in parts[0][1]]

    def word_let(self, s, parts, phase, env, around, context):
        xs, es = self.pairs(s, parts)
        terms = self.each(es, phase, env, around, context)
        return ("call", self.procedure(s, xs, parts[1:], phase, env, around), tuple(terms), at(s))

    def word_letrec(self, s, parts, phase, env, around, context):
        xs, es = self.pairs(s, parts)
        self.no_doubles(xs)
        scope, env = self.scope("letrec", at(s)), set(env)
        numbers = self.new_locals([add(x, scope) for x in xs], phase, env)
        terms = self.each([add(e, scope) for e in es], phase, env, around, context)
        return ("rec", tuple(zip(numbers, terms)), self.body(at(s), [add(form, scope) for form in parts[1:]], phase, env, around + 1))

    def macros(self, es, s, phase, around, context):
        found = []
        for e in es:
            found.append(self.evaluate(self.expand(e, phase + 1, set(), around, context), phase + 1, at(s)))
        return found

    def new_own(self, x, value, phase, env, home):
        target = ("own", self.module, self.count("own"))
        self.values[target], self.home[target] = value, home
        self.bind(phase, x, target)
        env.add(target)

    def with_macros(self, s, xs, values, scope, forms, phase, env, around):
        env = set(env)
        for x, value in zip(xs, values):
            self.new_own(add(x, scope), value, phase, env, None)
        return self.body(at(s), [add(form, scope) for form in forms], phase, env, around + 1)

    def word_letmac(self, s, parts, phase, env, around, context):
        xs, es = self.pairs(s, parts)
        if phase == 3:
            raise ExpandError("phases", at(s))
        values = self.macros(es, s, phase, around + 1, context)
        self.no_doubles(xs)
        return self.with_macros(s, xs, values, self.scope("letmac", at(s)), parts[1:], phase, env, around)

    def word_recmac(self, s, parts, phase, env, around, context):
        xs, es = self.pairs(s, parts)
        if phase == 3:
            raise ExpandError("phases", at(s))
        self.no_doubles(xs)
        scope = self.scope("recmac", at(s))
        values = self.macros([add(e, scope) for e in es], s, phase, around + 1, context)
        return self.with_macros(s, xs, values, scope, parts[1:], phase, env, around)

    def word_match(self, s, parts, phase, env, around, context):
        self.form(len(parts) > 1 and parts[1][0] == "list" and all(x[0] == "id" for x in parts[1][1]), s)
        for clause in parts[2:]:
            self.form(clause[0] == "list" and len(clause[1]) > 1, s)
        if around + len(parts) - 2 > 40:
            raise ExpandError("deep", at(s))
        o = at(s)
        e = self.expand(parts[0], phase, env, around + 1, context)
        t = self.count("local")
        made = []
        for ahead, clause in enumerate(parts[2:]):
            made.append(self.clause(clause, parts[1], ahead, phase, env, around))
        term = ("call", ("prim", "fail"), (("const", ("number", 0)),), o)
        for r, pattern, numbers, body in reversed(made):
            args, rest = [], ("local", r, o)
            for _ in numbers:
                args.append(("call", ("prim", "first"), (rest,), o))
                rest = ("call", ("prim", "rest"), (rest,), o)
            inner = ("if", ("local", r, o), ("call", ("fn", numbers, body), tuple(args), o), term)
            term = ("call", ("fn", (r,), inner), (("call", pattern, (("local", t, o),), o),), o)
        return ("call", ("fn", (t,), term), (e,), o)

    def clause(self, clause, literals, ahead, phase, env, around):
        pattern = clause[1][0]
        maker = PatternMaker(literals[1])
        try:
            maker.made(pattern, 0)
        except RulesError as error:
            raise ExpandError(error.code, error.occurrence) from None
        self.inner_arrows(identifiers(pattern), literals[1])
        scope = self.scope("match", at(clause))
        self.form(len(maker.bound) <= 40, clause)
        xs = [x for x, _ in maker.bound]

        def scoped(d):
            if d[0] == "list":
                return ("list", tuple(scoped(part) for part in d[1]), d[2])
            return add(d, scope) if d in xs else d
        r, env = self.count("local"), set(env)
        before = self.counts["local"]
        numbers = self.new_locals([add(x, scope) for x in xs], phase, env)
        for k, (_, deep) in enumerate(maker.bound):
            self.depths[("local", self.module, before + k)] = deep
        body = self.body(at(clause), [add(form, scope) for form in clause[1][1:]], phase, env, around + 3 + ahead)
        return r, ("pattern", ("list", (literals, scoped(pattern)), at(clause))), numbers, body

    def word_fill(self, s, parts, phase, env, around, context):
        self.form(len(parts) == 1, s)
        args, rows = [], []
        for x in identifiers(parts[0]):
            kind, row = self.ask(phase, x)
            if kind == "ambiguous":
                raise ExpandError(kind, at(x))
            if row is None or row[3][0] in ("word", "prim"):
                continue
            self.note(phase, x, kind, row)
            if row[3] not in self.depths:
                continue
            if row[3] not in env:
                raise ExpandError("scope", at(x))
            known = [arg[1] for arg in args]
            if row[3][2] not in known:
                args.append(("local", row[3][2], at(x)))
                known.append(row[3][2])
            entry = (x[1], x[3], known.index(row[3][2]), self.depths[row[3]])
            if entry not in rows:
                rows.append(entry)
        try:
            Template(parts[0], {(name, scopes): (k, deep) for name, scopes, k, deep in rows})
        except RulesError as error:
            raise ExpandError(error.code, error.occurrence) from None
        return ("call", ("template", parts[0], tuple(rows)), tuple(args), at(s))

    # Bodies and groups.

    def cleared(self, x, context):
        return mapped(x, lambda scopes: scopes - self.use_sites[context])

    def body(self, owner, forms, phase, env, around):
        edge, context, env = self.scope("body", owner), self.count("context") + 1, set(env)
        self.use_sites[context] = set()
        defs, expressions, start = [], [], len(self.log)

        def take(word, s):
            parts = s[1][1:]
            if word in ("def", "defmac"):
                self.form(len(parts) == 2 and parts[0][0] == "id", s)
                if expressions:
                    raise ExpandError("order", at(s))
            if word == "def":
                n = self.new_locals([self.cleared(parts[0], context)], phase, env)[0]
                defs.append((n, parts[1]))
            elif word == "defmac":
                if phase == 3:
                    raise ExpandError("phases", at(s))
                (value,) = self.macros(parts[1:], s, phase, around, context)
                self.new_own(self.cleared(parts[0], context), value, phase, env, context)
            elif word in NOWHERE:
                raise ExpandError("place", at(s))
            else:
                expressions.append(s)
        self.first_pass([add(form, edge) for form in forms], phase, env, context, take, expressions.append)
        self.late(start)
        if not expressions:
            raise ExpandError("form", owner)
        pairs = tuple((n, self.expand(e, phase, env, around, context)) for n, e in defs)
        term = self.flat([self.expand(e, phase, env, around, context) for e in expressions])
        return ("rec", pairs, term) if pairs else term

    def first_pass(self, forms, phase, env, context, take, keep):
        left = list(forms)
        while left:
            s = left.pop(0)
            row = self.head(s, phase, env) if s[0] != "atom" else None
            target = ("none",) if row is None else row[3]
            if target[0] in ("macro", "own"):
                left.insert(0, self.use(s, target, phase, env, context))
            elif target[0] == "word" and s[0] == "list":
                if target[1] == "do":
                    left[:0] = s[1][1:]
                else:
                    take(target[1], s)
            else:
                keep(s)

    def group(self, forms, level, owner):
        left, start = [], len(self.log)

        def take(word, s):
            parts = s[1][1:]
            if word in ("def", "defmac"):
                self.form(len(parts) == 2 and parts[0][0] == "id", s)
            if word in ("defmac", "up") and level == 3:
                raise ExpandError("phases", at(s))
            if word == "def":
                target = ("top", self.module, level, self.count(("top", level)))
                self.define(parts[0], target)
                left.append((target, parts[1]))
            elif word == "defmac":
                term = self.expand(parts[1], level + 1, set(), 0, 0)
                value = self.evaluate(term, level + 1, at(s))
                target = ("macro", self.module, level, self.count(("macro", level)))
                self.values[(self.module, 0, *target[2:])] = value
                self.items.append(("mac", level, target[3], term))
                self.define(parts[0], target)
            elif word == "up":
                self.group(parts, level + 1, at(s))
            elif word == "use":
                for spec in parts:
                    self.take_use(spec, level)
            elif word == "offer":
                self.offer_specs.extend((spec, level) for spec in parts)
            elif word in NOWHERE:
                raise ExpandError("place", at(s))
            else:
                left.append((None, s))
        self.first_pass(forms, level, set(), 0, take, lambda s: left.append((None, s)))
        self.late(start)
        if level == 0:
            for spec, one in self.offer_specs:
                self.take_offer(spec, one)
        made = []
        for target, s in left:
            term = self.expand(s, level, set(), 0, 0)
            if target is not None:
                made.append(("def", level, target[3], term))
            else:
                made.extend(("expr", level, 0, part) for part in (term[1] if term[0] == "do" else [term]))
        for kind, _, k, term in made:
            if level > 0:
                value = self.evaluate(term, level, owner)
                if kind == "def":
                    self.machine.tops[(self.module, 0, level, k)] = value
            self.items.append((kind, level, k, term))

    def define(self, x, target):
        x = self.cleared(x, 0)
        self.bind(target[2], x, target)
        self.defined.append((x, target))

    # Modules.

    def word_at(self, spec, level):
        if spec[0] == "list" and spec[1] and spec[1][0][0] == "id":
            row = self.look(level, spec[1][0])[1]
            if row is not None and row[3][0] == "word":
                return row[3][1]
        return None

    def take_use(self, spec, level):
        word, n, rest = None, spec, ()
        if spec[0] != "id":
            word = self.word_at(spec, level)
            self.form(word in ("only", "except", "rename") and len(spec[1]) > 1 and spec[1][1][0] == "id", spec)
            n, rest = spec[1][1], spec[1][2:]
            for part in rest:
                if word == "rename":
                    self.form(part[0] == "list" and len(part[1]) == 2 and all(x[0] == "id" for x in part[1]), spec)
                else:
                    self.form(part[0] == "id", spec)
        if n[1] == self.module or n[1] not in self.artifacts:
            raise ExpandError("module", at(n))
        self.fixed.add(at(n))
        if (n[1], level) not in self.uses:
            self.uses.append((n[1], level))
        self.make_ready(n[1], level, at(n))
        offers = self.artifacts[n[1]][3]
        for x in [part[1][0] if word == "rename" else part for part in rest]:
            if all(offer[0] != x[1] for offer in offers):
                raise ExpandError("offer", at(x))
            self.arrows |= {(at(x), offer[3]) for offer in offers if offer[0] == x[1]}
        for offer in offers:
            for x, name, giver in self.bringers(offer, word, n, rest):
                self.import_it(offer, x, name, giver, level)

    def bringers(self, offer, word, n, rest):
        if word == "rename":
            return [(part[1][1], part[1][1][1], at(part[1][1])) for part in rest if part[1][0][1] == offer[0]]
        told = [(x, offer[0], offer[3]) for x in rest if x[1] == offer[0]]
        if word == "only":
            return told
        return [] if told else [(n, offer[0], offer[3])]

    def import_it(self, offer, x, name, giver, level):
        phase = offer[1] + level
        if phase > (2 if offer[2][0] == "macro" else 3):
            return
        scopes = self.cleared(x, 0)[3]
        known = [row[3] for row in self.table if row[:3] == (phase, name, scopes)]
        if not known:
            self.add_row((phase, name, scopes, offer[2], giver))
        elif known[0] != offer[2]:
            raise ExpandError("conflict", at(x))

    def make_ready(self, name, shift, occurrence):
        if (name, shift) in self.ready:
            return
        _, _, uses, _, bindings, items = self.artifacts[name]
        for module, level in uses:
            if shift + level <= 3:
                self.make_ready(module, shift + level, occurrence)
        phase = {"mac": 1, "def": 0, "expr": 0}
        items = [item for item in items if 1 <= shift + item[1] + phase[item[0]] <= 3]
        sets = [set(x[3]) for item in items for s in all_syntax(item[3]) for x in identifiers(s)]

        def shifted(scopes):
            return {scope if scope[0] == "core" else (*scope[:2], scope[2] + shift) for scope in scopes}
        for row in bindings:
            is_macro = row[3][0] in ("macro", "own")
            if row[0] + shift <= (2 if is_macro else 3):
                if row[3][0] in ("top", "macro") or any(set(row[2]) <= scopes for scopes in sets):
                    self.table.append((row[0] + shift, row[1], tuple(sorted(shifted(row[2]))), *row[3:]))
        for kind, level, k, term in items:
            value = self.evaluate(changed_term(term, shifted), shift + level + phase[kind], occurrence)
            if kind == "def":
                self.machine.tops[(name, shift, level, k)] = value
            elif kind == "mac":
                self.values[(name, shift, level, k)] = value
        self.ready.append((name, shift))

    def take_offer(self, spec, level):
        if spec[0] == "id":
            self.offer(spec, spec, level)
            return
        word = self.word_at(spec, level)
        if word == "as" and len(spec[1]) == 3 and spec[1][1][0] == spec[1][2][0] == "id":
            self.offer(spec[1][1], spec[1][2], level)
        elif word == "all" and len(spec[1]) == 1:
            for x, target in self.defined:
                if target[2] == level and x[3] == self.cleared(spec[1][0], 0)[3]:
                    self.add_offer((x[1], level, target, at(x)), spec[1][0])
        else:
            raise ExpandError("form", at(spec))

    def offer(self, x, y, level):
        kind, row = self.look(level, x)
        if row is None:
            raise ExpandError(kind, at(x))
        if row[3][0] not in ("top", "macro"):
            raise ExpandError("offer", at(x))
        self.add_offer((y[1], level, row[3], row[4] if x is y else at(y)), y)

    def add_offer(self, offer, x):
        known = [one for one in self.offers if one[:2] == offer[:2]]
        if not known:
            self.offers.append(offer)
        elif known[0] != offer:
            raise ExpandError("conflict", at(x))

    # What is told.

    def artifact(self):
        def sets(items):
            return [x[3] for item in items for s in all_syntax(item[3]) for x in identifiers(s)]

        def kept(row, items):
            return row[3][0] in ("top", "macro") or any(set(row[2]) <= set(scopes) for scopes in sets(items))
        others = [item for item in self.items if item[0] == "mac" or item[1] > 0]
        plain = [item for item in self.items if item not in others]
        rows = [row for row in self.own_rows if kept(row, self.items)]
        order = [row[2] for row in rows if kept(row, others)] + sets(others)
        order += [row[2] for row in rows if not kept(row, others)] + sets(plain)
        numbers = {}
        for scopes in order:
            for scope in scopes:
                if scope[0] == self.module and scope not in numbers:
                    numbers[scope] = (self.module, len(numbers), 0)

        def renumbered(scopes):
            return {numbers.get(scope, scope) for scope in scopes}
        rows = tuple((*row[:2], tuple(sorted(renumbered(row[2]))), *row[3:]) for row in rows)
        items = tuple((*item[:3], changed_term(item[3], renumbered)) for item in self.items)
        return ("module", self.module, tuple(self.uses), tuple(self.offers), rows, items)

    def told(self):
        """All that is told of a compiled module, but tales."""
        return (self.artifact(), self.ready, self.steps, sorted(self.arrows), sorted(self.links), sorted(self.fixed),
                100000 - self.machine.left, self.scopes, self.table[self.core:])


def compile_plainly(module, text, artifacts):
    return Plain(module, text, artifacts).compile()
