"""What several tests use."""

import random

from wherewritten.compiling import compile_module
from wherewritten.errors import WhereError
from wherewritten.linking import run
from wherewritten.reading import offsets, read
from wherewritten.showing import show
from wherewritten.syntax import datum_of, syntax_of

AT = ("m", 0)


def syn(text, scopes=(), module="m"):
    """The syntax of a text with one form."""
    (datum,) = read(text)
    return syntax_of(module, datum, scopes)


def text_of(syntax):
    return show(datum_of(syntax))


def fields_of(error):
    return tuple(vars(error).values())


def outcome(action, *args):
    """What a call gives, or the class and the fields of the error that it raises."""
    try:
        return ("gives", action(*args))
    except WhereError as error:
        return (type(error).__name__, *fields_of(error))


def same_name(literal, identifier):
    return literal[1] == identifier[1]


def never(literal, identifier):
    raise AssertionError("nothing may be compared")


def random_datum(rng, deep, words):
    """The text of a datum that is at most deep deep."""
    pick = rng.random()
    if deep == 0 or pick < 0.55:
        return rng.choice(words)
    if pick < 0.65:
        return rng.choice(["'", "#'"]) + random_datum(rng, deep - 1, words)
    many = rng.randrange(4)
    return "(" + " ".join(random_datum(rng, deep - 1, words) for _ in range(many)) + ")"


def seeded(seed):
    return random.Random(seed)


# Terms, with the occurrence AT where nothing else is said.

def number(n):
    return ("const", ("number", n))


def flag(truth):
    return ("const", ("flag", truth))


def text(word):
    return ("const", ("text", word))


def plain_list(*parts):
    return ("list", tuple(parts))


def local(n, occurrence=AT):
    return ("local", n, occurrence)


def prim(name):
    return ("prim", name)


def fn(variables, term):
    return ("fn", tuple(variables), term)


def call(first, *rest, at=AT):
    return ("call", prim(first) if isinstance(first, str) else first, tuple(rest), at)


def stx(source, scopes=()):
    return ("syntax", syn(source, scopes))


# Modules.

def marked(text):
    """A text without the sign ^ in it, and the place of the datum ahead of which it stood (None without one)."""
    if "^" not in text:
        return text, None
    index = text.index("^")
    clean = text.replace("^", "")
    return clean, offsets(clean).index(index)


def made_of(text, name="m", artifacts=None):
    """What compiling a text gives."""
    return compile_module(name, text, artifacts or {})


def artifacts_of(texts):
    """The artifacts of modules, each of which uses only those ahead of it."""
    artifacts = {}
    for name, text in texts.items():
        artifacts[name] = compile_module(name, text, artifacts).artifact()
    return artifacts


def values_of(text, name="m", artifacts=None, fuel=100000):
    """The shown values of the expressions of a module, those of modules that it uses left out."""
    known = dict(artifacts or {})
    known[name] = compile_module(name, text, known).artifact()
    return [value for module, value in run(known, name, fuel) if module == name]


def spot(text, part, index=0):
    """The place of the datum that begins where a part of a text stands for the time with an index."""
    at = -1
    for _ in range(index + 1):
        at = text.index(part, at + 1)
    return offsets(text).index(at)
