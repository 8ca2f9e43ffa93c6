"""Evaluating terms."""

from wherewritten.blocks import block_of
from wherewritten.expanding import NoExpansion
from wherewritten.machine import Machine
from wherewritten.values import shown


def evaluate(term, fuel):
    """Return the pair of the shown value of a term and how many terms were begun."""
    machine = Machine(fuel, NoExpansion())
    value = machine.run(block_of(term))
    return (shown(value), fuel - machine.left)
