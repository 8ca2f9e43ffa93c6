"""Code: terms as blocks of instructions for a machine with a stack."""

from wherewritten.soundness import are_blocks_sound


class BlockMaker:
    """Makes the code of one block; what stands around it makes the blocks of the code."""

    def __init__(self, blocks, around, parameters):
        self.blocks = blocks
        # The maker of the block in which the fn stands, or None.
        self.around = around
        self.many = len(parameters)
        # The slots and the outer boxes of variables, by their numbers.
        self.slots = {}
        self.outer = {}
        # Where the block around has what is in the outer boxes.
        self.rows = []
        self.instructions = []
        # How many terms have begun since the last instruction.
        self.cost = 0
        self.number = len(blocks)
        blocks.append(None)
        self.bind(parameters)

    def bind(self, variables):
        """Give variables slots.

        A block comes to each of its terms at most once, so the boxes that it gets when it is begun
        are the new ones of a rec, too.
        """
        for variable in variables:
            self.slots[variable] = len(self.slots)

    def row_of(self, variable):
        """Return where the block has a variable: ("slot", i) or ("outer", i)."""
        if variable in self.slots:
            return ("slot", self.slots[variable])
        if variable not in self.outer:
            row = self.around.row_of(variable)
            self.outer[variable] = len(self.rows)
            self.rows.append(row)
        return ("outer", self.outer[variable])

    def put(self, instruction):
        """Add an instruction; the terms that have begun since the last one begin ahead of it."""
        if self.cost > 0:
            self.instructions.append(("begin", self.cost))
            self.cost = 0
        self.instructions.append(instruction)

    def put_jump(self, word):
        """Add an instruction that goes on elsewhere, and return its index."""
        self.put((word, None))
        return len(self.instructions) - 1

    def land(self, at):
        """Let the jump at an index go on at the next instruction that is added."""
        self.instructions[at] = (self.instructions[at][0], len(self.instructions))

    def end(self):
        """Let the block be part of the code."""
        self.blocks[self.number] = (self.many, len(self.slots), len(self.rows), tuple(self.instructions))


def _put_procedure(maker, term):
    inner = BlockMaker(maker.blocks, maker, term[1])
    _put_term(inner, term[2], True)
    inner.end()
    maker.put(("close", inner.number, tuple(inner.rows)))


def _put_if(maker, term, is_last):
    _put_term(maker, term[1], False)
    unless = maker.put_jump("unless")
    _put_term(maker, term[2], is_last)
    if is_last:
        maker.land(unless)
        _put_term(maker, term[3], True)
        return
    jump = maker.put_jump("jump")
    maker.land(unless)
    _put_term(maker, term[3], False)
    maker.land(jump)


def _put_rec(maker, term, is_last):
    maker.bind([variable for variable, _ in term[1]])
    for variable, part in term[1]:
        _put_term(maker, part, False)
        maker.put(("fill", maker.slots[variable]))
    _put_term(maker, term[2], is_last)


def _put_set(maker, term):
    _put_term(maker, term[2], False)
    variable = term[1]
    if variable[0] == "local":
        maker.put(("set", *maker.row_of(variable[1]), variable[2]))
    else:
        maker.put(("settop", *variable[1:]))


def _put_single(maker, term):
    """Add the instructions of a term that leaves a value, without an end of the block."""
    kind = term[0]
    if kind == "fn":
        _put_procedure(maker, term)
    elif kind == "set":
        _put_set(maker, term)
    elif kind == "local":
        maker.put((*maker.row_of(term[1]), term[2]))
    else:
        maker.put(term)


def _put_term(maker, term, is_last):
    """Add the instructions of a term; is_last tells whether the block ends behind them."""
    kind = term[0]
    maker.cost += 1
    if kind == "call":
        for part in (term[1], *term[2]):
            _put_term(maker, part, False)
        maker.put(("tail" if is_last else "call", len(term[2]), term[3]))
    elif kind == "if":
        _put_if(maker, term, is_last)
    elif kind == "do":
        for part in term[1][:-1]:
            _put_term(maker, part, False)
            maker.put(("drop",))
        _put_term(maker, term[1][-1], is_last)
    elif kind == "rec":
        _put_rec(maker, term, is_last)
    else:
        _put_single(maker, term)
        if is_last:
            maker.put(("return",))


def code_of(term):
    """Return the code of a term."""
    blocks = []
    maker = BlockMaker(blocks, None, ())
    _put_term(maker, term, True)
    maker.end()
    return tuple(blocks)


def is_sound(code):
    """Tell whether a tuple of tuples is sound code."""
    return are_blocks_sound(code)
