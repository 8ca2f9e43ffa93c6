"""What several tests use."""

import random

from wherewritten.errors import WhereError
from wherewritten.reading import read
from wherewritten.showing import show
from wherewritten.syntax import datum_of, syntax_of

AT = ("m", 0)


def syn(text, scopes=(), module="m"):
    """The syntax of a text with one form."""
    (datum,) = read(text)
    return syntax_of(module, datum, scopes)


def text_of(syntax):
    return show(datum_of(syntax))


def fields_of(error):
    return tuple(vars(error).values())


def outcome(action, *args):
    """What a call gives, or the class and the fields of the error that it raises."""
    try:
        return ("gives", action(*args))
    except WhereError as error:
        return (type(error).__name__, *fields_of(error))


def same_name(literal, identifier):
    return literal[1] == identifier[1]


def never(literal, identifier):
    raise AssertionError("nothing may be compared")


def random_datum(rng, deep, words):
    """The text of a datum that is at most deep deep."""
    pick = rng.random()
    if deep == 0 or pick < 0.55:
        return rng.choice(words)
    if pick < 0.65:
        return rng.choice(["'", "#'"]) + random_datum(rng, deep - 1, words)
    many = rng.randrange(4)
    return "(" + " ".join(random_datum(rng, deep - 1, words) for _ in range(many)) + ")"


def seeded(seed):
    return random.Random(seed)


# Terms, with the occurrence AT where nothing else is said.

def number(n):
    return ("const", ("number", n))


def flag(truth):
    return ("const", ("flag", truth))


def text(word):
    return ("const", ("text", word))


def plain_list(*parts):
    return ("list", tuple(parts))


def local(n, occurrence=AT):
    return ("local", n, occurrence)


def prim(name):
    return ("prim", name)


def fn(variables, term):
    return ("fn", tuple(variables), term)


def call(first, *rest, at=AT):
    return ("call", prim(first) if isinstance(first, str) else first, tuple(rest), at)


def stx(source, scopes=()):
    return ("syntax", syn(source, scopes))
