"""Running code: a machine with a stack, for blocks of instructions.

All blocks that run share one stack of values: sound code never takes more from it than its own
block has put there. A box is a list of what it holds, or of None if it holds nothing yet.
"""

from wherewritten.applying import applied
from wherewritten.blocks import value_of_term
from wherewritten.coding import code_of
from wherewritten.errors import RunError
from wherewritten.expanding import NoExpansion
from wherewritten.linking import linked, run_rows
from wherewritten.machine import key_of_top
from wherewritten.values import shown

VALUES = ("const", "syntax", "rules", "prim", "pattern", "template")


def do_begin(runner, step):
    """Begin some terms."""
    if step[1] > runner.left:
        raise RunError("fuel", None)
    runner.left -= step[1]


def do_value(runner, step):
    """Put a value on the stack."""
    runner.stack.append(step[1])


def _put_held(runner, box, occurrence):
    if box[0] is None:
        raise RunError("early", occurrence)
    runner.stack.append(box[0])


def do_slot(runner, step):
    """Put what a slot holds on the stack."""
    _put_held(runner, runner.slots[step[1]], step[2])


def do_outer(runner, step):
    """Put what an outer box holds on the stack."""
    _put_held(runner, runner.outer[step[1]], step[2])


def do_top(runner, step):
    """Put what a variable of a module holds on the stack."""
    if step[1] not in runner.tops:
        raise RunError("early", step[2])
    runner.stack.append(runner.tops[step[1]])


def _box_at(runner, kind, number):
    return runner.slots[number] if kind == "slot" else runner.outer[number]


def do_close(runner, step):
    """Put a procedure of a block on the stack."""
    boxes = [_box_at(runner, kind, number) for kind, number in step[2]]
    runner.stack.append(("closure", runner.block.others[step[1]], boxes))


def do_jump(runner, step):
    """Go on elsewhere."""
    runner.at = step[1]


def do_unless(runner, step):
    """Go on elsewhere if a value is the flag False."""
    value = runner.stack.pop()
    if value[0] == "flag" and not value[1]:
        runner.at = step[1]


def do_drop(runner, step):
    """Take a value that is not needed."""
    runner.stack.pop()


def do_return(runner, step):
    """End a block; its value stays on the stack."""
    runner.resume()


def do_new(runner, step):
    """Give a slot a new box."""
    runner.slots[step[1]] = [None]


def do_fill(runner, step):
    """Let the box of a slot hold a value."""
    runner.slots[step[1]][0] = runner.stack.pop()


def do_set(runner, step):
    """Let a box hold the value on top of the stack."""
    box = _box_at(runner, step[1], step[2])
    if box[0] is None:
        raise RunError("early", step[3])
    box[0] = runner.stack[-1]


def do_set_top(runner, step):
    """Let a variable of a module hold the value on top of the stack."""
    if step[1] not in runner.tops:
        raise RunError("early", step[2])
    runner.tops[step[1]] = runner.stack[-1]


def _apply(runner, step, is_last):
    """Apply a procedure to the arguments above it; is_last tells whether the block ends with it."""
    start = len(runner.stack) - step[1]
    given = runner.stack[start:]
    procedure = runner.stack[start - 1]
    del runner.stack[start - 1:]
    if procedure[0] != "closure":
        runner.stack.append(applied(procedure, given, step[2], runner.around))
        if is_last:
            runner.resume()
        return
    if len(given) != procedure[1].many:
        raise RunError("count", step[2])
    if is_last:
        runner.resume()
    runner.begin(procedure[1], given, procedure[2])


def do_call(runner, step):
    """Apply a procedure."""
    _apply(runner, step, False)


def do_tail(runner, step):
    """Apply a procedure in place of the block."""
    _apply(runner, step, True)


ACTIONS = {
    "begin": do_begin, "slot": do_slot, "outer": do_outer, "close": do_close, "call": do_call, "tail": do_tail,
    "jump": do_jump, "unless": do_unless, "drop": do_drop, "return": do_return, "new": do_new, "fill": do_fill,
    "set": do_set,
}


def _step_of(instruction):
    """Return an instruction with the function that does it in place of its word."""
    word = instruction[0]
    if word in VALUES:
        return (do_value, value_of_term(instruction))
    if word in ("top", "settop"):
        action = do_top if word == "top" else do_set_top
        return (action, key_of_top(instruction, 0), instruction[4])
    return (ACTIONS[word], *instruction[1:])


class ReadyBlock:
    """A block whose instructions are steps: tuples of a function that does one, and its operands."""

    def __init__(self, block, others):
        self.many, self.slot_count, _, instructions = block
        self.step_rows = [_step_of(instruction) for instruction in instructions]
        # The blocks of the same code, by their numbers.
        self.others = others


class Runner:
    """Runs code with fuel for some terms, while nothing is expanded."""

    def __init__(self, fuel):
        self.left = fuel
        self.around = NoExpansion()
        # What the variables of modules hold.
        self.tops = {}
        self.stack = []
        # What goes on behind the calls: (block, index of the next step, slots, outer boxes).
        self.waiting = []
        self.block = None
        self.at = 0
        self.slots = None
        self.outer = None
        # How many blocks were begun and not ended at most at the same time.
        self.deepest = 0

    def run(self, code):
        """Return the value of code."""
        ready = []
        for block in code:
            ready.append(ReadyBlock(block, ready))
        self.begin(ready[0], [], [])
        while self.block is not None:
            step = self.block.step_rows[self.at]
            self.at += 1
            action = step[0]
            action(self, step)
        return self.stack.pop()

    def hold(self, key, value):
        """Let a variable of a module hold a value."""
        self.tops[key] = value

    def begin(self, block, given, outer):
        """Begin a block; what is done now goes on when it has ended."""
        self.waiting.append((self.block, self.at, self.slots, self.outer))
        self.deepest = max(self.deepest, len(self.waiting))
        slots = [[value] for value in given]
        slots.extend([[None] for _ in range(block.slot_count - block.many)])
        self.go_on(block, 0, slots, outer)

    def go_on(self, block, at, slots, outer):
        """Go on at a step of a block."""
        self.block = block
        self.at = at
        self.slots = slots
        self.outer = outer

    def resume(self):
        """End the block that is done now."""
        block, at, slots, outer = self.waiting.pop()
        self.go_on(block, at, slots, outer)


def run_code(code, fuel):
    """Return the pair of the shown value of code and how many terms were begun."""
    runner = Runner(fuel)
    value = runner.run(code)
    return (shown(value), fuel - runner.left)


def run_linked(artifacts, main, fuel):
    """Return the list of the pairs (module, shown value) of a program, by way of code."""
    return run_rows(Runner(fuel), code_of, linked(artifacts, main))


def deepest_run(code, fuel):
    """Return how many blocks were begun and not ended at most at the same time."""
    runner = Runner(fuel)
    try:
        runner.run(code)
    except RunError:
        # What was counted until then counts all the same.
        pass
    return runner.deepest
