"""A plain machine for code, and a plain way to tell whether code is sound: for tests of coding."""

from wherewritten.applying import applied
from wherewritten.blocks import block_of
from wherewritten.errors import RunError
from wherewritten.expanding import NoExpansion
from wherewritten.machine import Machine
from wherewritten.terms import primitives
from wherewritten.values import shown


class CodeMachine:
    def __init__(self, code, fuel):
        self.code = code
        self.fuel = fuel
        self.left = fuel
        # The most blocks that were begun and not ended at the same time.
        self.deepest = 0

    def run(self):
        """The pair of the shown value and the number of terms that were begun."""
        self.calls = []
        self.begin(0, [], [])
        while True:
            block, at, slots, outer, stack = self.calls[-1]
            instruction = self.code[block][3][at]
            self.calls[-1][1] += 1
            ended = getattr(self, "do_" + instruction[0], self.do_value)(instruction, slots, outer, stack)
            if ended is not None:
                if not self.calls:
                    return (shown(ended[0]), self.fuel - self.left)
                self.calls[-1][4].append(ended[0])

    def begin(self, block, given, outer):
        slots = [[value] for value in given] + [[] for _ in range(self.code[block][1] - len(given))]
        self.calls.append([block, 0, slots, outer, []])
        self.deepest = max(self.deepest, len(self.calls))

    def do_begin(self, instruction, slots, outer, stack):
        if self.left < instruction[1]:
            raise RunError("fuel", None)
        self.left -= instruction[1]

    def do_value(self, instruction, slots, outer, stack):
        stack.append(Machine(1, NoExpansion()).run(block_of(instruction)))

    def look(self, box, occurrence, stack):
        if not box:
            raise RunError("early", occurrence)
        stack.append(box[0])

    def do_slot(self, instruction, slots, outer, stack):
        self.look(slots[instruction[1]], instruction[2], stack)

    def do_outer(self, instruction, slots, outer, stack):
        self.look(outer[instruction[1]], instruction[2], stack)

    def do_close(self, instruction, slots, outer, stack):
        boxes = [(slots if kind == "slot" else outer)[number] for kind, number in instruction[2]]
        stack.append(("closure", instruction[1], boxes))

    def apply(self, instruction, stack):
        many, occurrence = instruction[1:]
        given = stack[len(stack) - many:]
        del stack[len(stack) - many:]
        procedure = stack.pop()
        if procedure[0] != "closure":
            return [applied(procedure, given, occurrence, NoExpansion())]
        if many != self.code[procedure[1]][0]:
            raise RunError("count", occurrence)
        return procedure, given

    def do_call(self, instruction, slots, outer, stack):
        told = self.apply(instruction, stack)
        if len(told) == 1:
            stack.append(told[0])
        else:
            self.begin(told[0][1], told[1], told[0][2])

    def do_tail(self, instruction, slots, outer, stack):
        told = self.apply(instruction, stack)
        assert not stack
        self.calls.pop()
        if len(told) == 1:
            return told
        self.begin(told[0][1], told[1], told[0][2])
        return None

    def do_jump(self, instruction, slots, outer, stack):
        self.calls[-1][1] = instruction[1]

    def do_unless(self, instruction, slots, outer, stack):
        if stack.pop() == ("flag", False):
            self.calls[-1][1] = instruction[1]

    def do_drop(self, instruction, slots, outer, stack):
        stack.pop()

    def do_return(self, instruction, slots, outer, stack):
        self.calls.pop()
        (value,) = stack
        return [value]

    def do_new(self, instruction, slots, outer, stack):
        slots[instruction[1]] = []

    def do_fill(self, instruction, slots, outer, stack):
        slots[instruction[1]][:] = [stack.pop()]

    def do_set(self, instruction, slots, outer, stack):
        _, kind, number, occurrence = instruction
        box = (slots if kind == "slot" else outer)[number]
        if not box:
            raise RunError("early", occurrence)
        box[0] = stack[-1]


def is_number(value, least=0, below=10 ** 9):
    return type(value) is int and least <= value < below


def is_at(value):
    return type(value) is tuple and len(value) == 2 and value[0] == "m" and is_number(value[1])


def has_form(code, block, at, instruction):
    """Whether an instruction of the code of tests has a form that fits: other values in it are right ones."""
    _, slots, outer, instructions = code[block]
    word, *rest = instruction

    def box(kind, number):
        return kind in ("slot", "outer") and is_number(number, 0, slots if kind == "slot" else outer)

    if word == "begin":
        return len(rest) == 1 and is_number(rest[0], 1)
    if word in ("const", "syntax", "rules", "pattern"):
        return len(rest) == 1 and type(rest[0]) is tuple
    if word == "template":
        return len(rest) == 2
    if word == "prim":
        return len(rest) == 1 and rest[0] in primitives()
    if word in ("slot", "outer"):
        return len(rest) == 2 and box(word, rest[0]) and is_at(rest[1])
    if word in ("top", "settop"):
        return (len(rest) == 4 and type(rest[0]) is str and rest[0] == "m" and is_number(rest[1], 0, 4)
                and is_number(rest[2]) and is_at(rest[3]))
    if word == "close":
        return (len(rest) == 2 and is_number(rest[0], 0, len(code)) and type(rest[1]) is tuple
                and len(rest[1]) == code[rest[0]][2]
                and all(type(row) is tuple and len(row) == 2 and box(*row) for row in rest[1]))
    if word in ("call", "tail"):
        return len(rest) == 2 and is_number(rest[0]) and is_at(rest[1])
    if word in ("jump", "unless"):
        return len(rest) == 1 and is_number(rest[0], at + 1, len(instructions))
    if word in ("drop", "return"):
        return rest == []
    if word in ("new", "fill"):
        return len(rest) == 1 and box("slot", rest[0])
    return word == "set" and len(rest) == 3 and box(rest[0], rest[1]) and is_at(rest[2])


def ways(instruction, at, height):
    """The pairs (index, height) to which an instruction leads; None if the height is wrong."""
    word = instruction[0]
    if word == "tail":
        return [] if height == instruction[1] + 1 else None
    if word == "return":
        return [] if height == 1 else None
    takes, puts = {"call": (instruction[1] + 1 if word == "call" else 0, 1), "unless": (1, 0), "drop": (1, 0), "fill": (1, 0),
                   "set": (1, 1), "settop": (1, 1), "begin": (0, 0), "jump": (0, 0), "new": (0, 0)}.get(word, (0, 1))
    if height < takes:
        return None
    after = height - takes + puts
    if word == "jump":
        return [(instruction[1], after)]
    return [(at + 1, after)] + ([(instruction[1], after)] if word == "unless" else [])


def is_sound_plainly(code):
    if not code or any(type(block) is not tuple or len(block) != 4 for block in code):
        return False
    for parameters, slots, outer, instructions in code:
        if not (is_number(parameters) and is_number(slots, parameters) and is_number(outer) and type(instructions) is tuple):
            return False
    if code[0][0] != 0 or code[0][2] != 0:
        return False
    for number, block in enumerate(code):
        instructions = block[3]
        if not instructions or any(type(one) is not tuple or not one or type(one[0]) is not str for one in instructions):
            return False
        if not all(has_form(code, number, at, one) for at, one in enumerate(instructions)):
            return False
        if instructions[0][0] != "begin" or instructions[-1][0] not in ("tail", "return", "jump"):
            return False
        heights, left = {}, [(0, 0)]
        while left:
            at, height = left.pop()
            if heights.setdefault(at, height) != height:
                return False
            more = ways(instructions[at], at, height)
            if more is None:
                return False
            left.extend(more)
    return True
