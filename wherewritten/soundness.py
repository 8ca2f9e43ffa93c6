"""Telling whether code is sound: the forms of instructions, and the heights of the stack."""

from wherewritten.procedures import PRIMITIVES
from wherewritten.table import LAST_PHASE
from wherewritten.validity import is_count, is_module_name, is_occurrence, is_template_for

# The kinds of what stands behind the words of instructions. Plain values, syntax and forms are
# right ones: nothing in them is looked at.
OPERANDS = {
    "begin": ("many",),
    "const": ("right",),
    "syntax": ("right",),
    "rules": ("right",),
    "prim": ("prim",),
    "pattern": ("right",),
    "template": ("right", "any"),
    "slot": ("slot", "occurrence"),
    "outer": ("outer", "occurrence"),
    "top": ("module", "level", "count", "occurrence"),
    "close": ("block", "any"),
    "call": ("count", "occurrence"),
    "tail": ("count", "occurrence"),
    "jump": ("later",),
    "unless": ("later",),
    "drop": (),
    "return": (),
    "new": ("slot",),
    "fill": ("slot",),
    "set": ("any", "any", "occurrence"),
    "settop": ("module", "level", "count", "occurrence"),
}
ENDS = ("tail", "return", "jump")

# How many values an instruction takes, and how many it puts on the stack, but for calls and return.
TAKEN = {"unless": 1, "drop": 1, "fill": 1, "set": 1, "settop": 1}
STACKED = {
    "const": 1, "syntax": 1, "rules": 1, "prim": 1, "pattern": 1, "template": 1, "slot": 1, "outer": 1,
    "top": 1, "close": 1, "set": 1, "settop": 1,
}


def _is_below(value, bound):
    return is_count(value) and value < bound


def _is_of_form(value, kind):
    """Tell whether a value is of a kind that does not hang on the block."""
    if kind == "right":
        return isinstance(value, tuple)
    if kind == "prim":
        return isinstance(value, str) and value in PRIMITIVES
    if kind == "module":
        return is_module_name(value)
    if kind == "level":
        return _is_below(value, LAST_PHASE + 1)
    if kind == "occurrence":
        return is_occurrence(value)
    if kind == "many":
        return is_count(value) and value > 0
    return is_count(value)


def _has_form_of_block(block):
    """Tell whether a value is a block, whatever its instructions are."""
    if not isinstance(block, tuple) or len(block) != 4:
        return False
    parameters, slots, outer, instructions = block
    if not is_count(parameters) or not is_count(slots) or not is_count(outer):
        return False
    return parameters <= slots and isinstance(instructions, tuple) and len(instructions) > 0


class BlockChecker:
    """Tells whether one of the blocks of some code is sound."""

    def __init__(self, code, block):
        self.code = code
        _, self.slots, self.outer, self.instructions = block

    def fits(self, value, kind, at):
        """Tell whether a value is of a kind that stands in the instruction at an index."""
        if kind == "any":
            return True
        if kind == "slot":
            return _is_below(value, self.slots)
        if kind == "outer":
            return _is_below(value, self.outer)
        if kind == "block":
            return _is_below(value, len(self.code))
        if kind == "later":
            return _is_below(value, len(self.instructions)) and value > at
        return _is_of_form(value, kind)

    def is_row(self, kind, number):
        """Tell whether two values tell of a slot or an outer box of the block."""
        if kind == "slot":
            return _is_below(number, self.slots)
        return kind == "outer" and _is_below(number, self.outer)

    def are_rows(self, rows, block):
        """Tell whether a value tells of as many boxes as a block is made with."""
        if not isinstance(rows, tuple) or len(rows) != block[2]:
            return False
        for row in rows:
            if not isinstance(row, tuple) or len(row) != 2 or not self.is_row(row[0], row[1]):
                return False
        return True

    def has_form(self, instruction, at):
        """Tell whether an instruction has a form with parts that fit."""
        if not isinstance(instruction, tuple) or not instruction or not isinstance(instruction[0], str):
            return False
        word = instruction[0]
        if word not in OPERANDS or len(instruction) != len(OPERANDS[word]) + 1:
            return False
        for value, kind in zip(instruction[1:], OPERANDS[word]):
            if not self.fits(value, kind, at):
                return False
        if word == "template":
            return is_template_for(instruction[1], instruction[2])
        if word == "close":
            return self.are_rows(instruction[2], self.code[instruction[1]])
        return word != "set" or self.is_row(instruction[1], instruction[2])

    def have_forms(self):
        """Tell whether all instructions have forms, and the first and the last one are right ones."""
        for at, instruction in enumerate(self.instructions):
            if not self.has_form(instruction, at):
                return False
        return self.instructions[0][0] == "begin" and self.instructions[-1][0] in ENDS

    def have_heights(self):
        """Tell whether each instruction that can be reached has one height, which is enough.

        All jumps go forward, so an instruction is looked at behind all that lead to it.
        """
        heights = {0: 0}
        for at, instruction in enumerate(self.instructions):
            if at not in heights:
                continue
            height = _height_behind(instruction, heights[at])
            if height is None:
                return False
            for after in _ways_from(instruction, at):
                if heights.setdefault(after, height) != height:
                    return False
        return True


def _height_behind(instruction, height):
    """Return the height behind an instruction, or None if the one ahead of it is wrong."""
    word = instruction[0]
    if word == "call":
        return height - instruction[1] if height > instruction[1] else None
    if word == "tail":
        return 0 if height == instruction[1] + 1 else None
    if word == "return":
        return 0 if height == 1 else None
    left = height - TAKEN.get(word, 0)
    return left + STACKED.get(word, 0) if left >= 0 else None


def _ways_from(instruction, at):
    """Return the indexes at which it can go on behind an instruction."""
    word = instruction[0]
    if word in ("tail", "return"):
        return ()
    if word == "jump":
        return (instruction[1],)
    return (at + 1, instruction[1]) if word == "unless" else (at + 1,)


def are_blocks_sound(code):
    """Tell whether a tuple is sound code."""
    if not code:
        return False
    for block in code:
        if not _has_form_of_block(block):
            return False
    if code[0][0] != 0 or code[0][2] != 0:
        return False
    for block in code:
        checker = BlockChecker(code, block)
        if not checker.have_forms() or not checker.have_heights():
            return False
    return True
