"""Turning terms into blocks of steps."""

from wherewritten.applying import PatternProcedure, RulesProcedure, TemplateProcedure
from wherewritten.machine import (
    Block, do_call, do_close, do_drop, do_fill, do_jump, do_local, do_return, do_set, do_set_top,
    do_top, do_unless, do_value, key_of_top,
)
from wherewritten.rules import Rules
from wherewritten.values import value_of


def value_of_term(term):
    """Return the value of a term whose value does not hang on variables."""
    kind = term[0]
    if kind == "const":
        return value_of(term[1])
    if kind == "rules":
        return ("rules", RulesProcedure(Rules(term[1])))
    if kind == "pattern":
        return ("pattern", PatternProcedure(term[1]))
    if kind == "template":
        return ("template", TemplateProcedure(term[1], term[2]))
    return (kind, term[1])


def _add_variable(block, variable, do_with_local, do_with_top):
    """Add the step that does something with what a variable holds."""
    if variable[0] == "local":
        hops, place = block.address(variable[1])
        block.add_step(do_with_local, hops, place, variable[2])
    else:
        block.add_step(do_with_top, key_of_top(variable, block.phase), None, variable[4])


def _add_term(block, term, is_last):
    """Add the steps of a term to a block; is_last tells whether the block ends behind them."""
    kind = term[0]
    block.cost += 1
    if kind in ("local", "top"):
        _add_variable(block, term, do_local, do_top)
    elif kind == "fn":
        inner = Block(block, term[1], block.phase)
        _add_term(inner, term[2], True)
        inner.add_step(do_return)
        block.add_step(do_close, inner)
    elif kind == "call":
        for part in (term[1], *term[2]):
            _add_term(block, part, False)
        block.add_step(do_call, len(term[2]), term[3], is_last)
    elif kind == "if":
        _add_term(block, term[1], False)
        unless = block.add_jump(do_unless)
        _add_term(block, term[2], is_last)
        jump = block.add_jump(do_jump)
        block.land(unless)
        _add_term(block, term[3], is_last)
        block.land(jump)
    elif kind == "do":
        for part in term[1][:-1]:
            _add_term(block, part, False)
            block.add_step(do_drop)
        _add_term(block, term[1][-1], is_last)
    elif kind == "rec":
        block.bind([variable for variable, _ in term[1]])
        for variable, part in term[1]:
            _add_term(block, part, False)
            block.add_step(do_fill, block.places[variable])
        _add_term(block, term[2], is_last)
    elif kind == "set":
        _add_term(block, term[2], False)
        _add_variable(block, term[1], do_set, do_set_top)
    else:
        block.add_step(do_value, value_of_term(term))


def block_of(term, phase=0):
    """Return the block of a term that stands in no other, at a phase."""
    block = Block(None, (), phase)
    _add_term(block, term, True)
    block.add_step(do_return)
    return block
