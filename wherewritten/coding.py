"""Code: terms as blocks of instructions for a machine with a stack."""

from wherewritten.soundness import are_blocks_sound


class BlockMaker:
    """Makes the code of one block; what stands around it makes the blocks of the code."""

    def __init__(self, blocks, around, parameters):
        self.blocks = blocks
        # The maker of the block in which the fn stands, or None.
        self.around = around
        self.many = len(parameters)
        # The slots and the outer boxes of variables, by their numbers.
        self.slots = {}
        self.outer = {}
        # Where the block around has what is in the outer boxes.
        self.rows = []
        self.instructions = []
        # How many terms have begun since the last instruction.
        self.cost = 0
        self.number = len(blocks)
        blocks.append(None)
        self.bind(parameters)

    def bind(self, variables):
        """Give variables slots.

        A block comes to each of its terms at most once, so the boxes that it gets when it is begun
        are the new ones of a rec, too.
        """
        for variable in variables:
            self.slots[variable] = len(self.slots)

    def row_of(self, variable):
        """Return where the block has a variable: ("slot", i) or ("outer", i)."""
        within = []
        maker = self
        while variable not in maker.slots and variable not in maker.outer:
            within.append(maker)
            maker = maker.around
        row = maker.own_row_of(variable)
        for inner in within[::-1]:
            inner.outer[variable] = len(inner.rows)
            inner.rows.append(row)
            row = ("outer", inner.outer[variable])
        return row

    def own_row_of(self, variable):
        """Return where the block has a variable that it is known to have."""
        if variable in self.slots:
            return ("slot", self.slots[variable])
        return ("outer", self.outer[variable])

    def put(self, instruction):
        """Add an instruction; the terms that have begun since the last one begin ahead of it."""
        if self.cost > 0:
            self.instructions.append(("begin", self.cost))
            self.cost = 0
        self.instructions.append(instruction)

    def put_jump(self, word):
        """Add an instruction that goes on elsewhere, and return its index."""
        self.put((word, None))
        return len(self.instructions) - 1

    def land(self, at):
        """Let the jump at an index, if there is one, go on at the next instruction that is added."""
        if at is not None:
            self.instructions[at] = (self.instructions[at][0], len(self.instructions))

    def end(self):
        """Let the block be part of the code."""
        self.blocks[self.number] = (self.many, len(self.slots), len(self.rows), tuple(self.instructions))


def _put_set(maker, variable):
    if variable[0] == "local":
        maker.put(("set", *maker.row_of(variable[1]), variable[2]))
    else:
        maker.put(("settop", *variable[1:]))


def _put_leaf(maker, term):
    maker.put((*maker.row_of(term[1]), term[2]) if term[0] == "local" else term)


def _put_term(maker, term, is_last):
    """Add the instructions of a term; is_last tells whether the block ends behind them."""
    kind = term[0]
    maker.cost += 1
    if kind == "call":
        for part in (term[1], *term[2]):
            _put_term(maker, part, False)
        maker.put(("tail" if is_last else "call", len(term[2]), term[3]))
    elif kind == "if":
        _put_term(maker, term[1], False)
        unless = maker.put_jump("unless")
        _put_term(maker, term[2], is_last)
        jump = None if is_last else maker.put_jump("jump")
        maker.land(unless)
        _put_term(maker, term[3], is_last)
        maker.land(jump)
    elif kind == "do":
        for part in term[1][:-1]:
            _put_term(maker, part, False)
            maker.put(("drop",))
        _put_term(maker, term[1][-1], is_last)
    elif kind == "rec":
        maker.bind([variable for variable, _ in term[1]])
        for variable, part in term[1]:
            _put_term(maker, part, False)
            maker.put(("fill", maker.slots[variable]))
        _put_term(maker, term[2], is_last)
    else:
        if kind == "fn":
            inner = BlockMaker(maker.blocks, maker, term[1])
            _put_term(inner, term[2], True)
            inner.end()
            maker.put(("close", inner.number, tuple(inner.rows)))
        elif kind == "set":
            _put_term(maker, term[2], False)
            _put_set(maker, term[1])
        else:
            _put_leaf(maker, term)
        if is_last:
            maker.put(("return",))


def code_of(term):
    """Return the code of a term."""
    blocks = []
    maker = BlockMaker(blocks, None, ())
    _put_term(maker, term, True)
    maker.end()
    return tuple(blocks)


def is_sound(code):
    """Tell whether a tuple of tuples is sound code."""
    return are_blocks_sound(code)
