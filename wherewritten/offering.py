"""Offering what a module binds."""

from wherewritten.errors import ExpandError
from wherewritten.interfaces import is_of_module
from wherewritten.shapes import is_identifier
from wherewritten.syntax import occurrence_of
from wherewritten.using import word_of_spec


def keep_offers(session, specs, level):
    """Keep the specs of an offer until all is bound."""
    for spec in specs:
        session.offer_specs.append((spec, level))


def _add_offer(session, offer, identifier):
    """Add an offer that an identifier tells of."""
    name, level, target, giver = offer
    for other in session.offers:
        if other[0] == name and other[1] == level:
            if other[2] != target or other[3] != giver:
                raise ExpandError("conflict", occurrence_of(identifier))
            return
    session.offers.append(offer)


def _offer_all(session, word, level):
    """Offer what was defined at a level with the set of the identifier all."""
    scopes = session.context.cleared(word)[3]
    for binder, target in session.defined:
        if target[2] == level and binder[3] == scopes:
            _add_offer(session, (binder[1], level, target, occurrence_of(binder)), word)


def _offer_one(session, identifier, called, level):
    """Offer what an identifier is bound to, under the name of another identifier if there is one."""
    kind, target, giver = session.record.look(level, identifier)
    if kind != "bound":
        raise ExpandError(kind, occurrence_of(identifier))
    if not is_of_module(target):
        raise ExpandError("offer", occurrence_of(identifier))
    if called is None:
        _add_offer(session, (identifier[1], level, target, giver), identifier)
    else:
        _add_offer(session, (called[1], level, target, occurrence_of(called)), called)


def _take_offer(session, spec, level):
    if is_identifier(spec):
        _offer_one(session, spec, None, level)
        return
    word = word_of_spec(session, spec, level)
    many = len(spec[1]) if word in ("as", "all") else 0
    if word == "as" and many == 3 and is_identifier(spec[1][1]) and is_identifier(spec[1][2]):
        _offer_one(session, spec[1][1], spec[1][2], level)
    elif word == "all" and many == 1:
        _offer_all(session, spec[1][0], level)
    else:
        raise ExpandError("form", occurrence_of(spec))


def take_offers(session):
    """Take all offers that were kept, in order."""
    for spec, level in session.offer_specs:
        _take_offer(session, spec, level)
