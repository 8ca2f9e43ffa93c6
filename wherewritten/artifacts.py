"""The texts of artifacts."""

from wherewritten.interfaces import interface_of

SIGNS = {"t": True, "f": False, "n": None}


def _pieces_of(value):
    """Return the texts and values of which the text of a value is made."""
    if value is True:
        return ["t"]
    if value is False:
        return ["f"]
    if value is None:
        return ["n"]
    if isinstance(value, int):
        return [str(value)]
    if isinstance(value, str):
        return [f"{len(value)}:{value}"]
    pieces = ["("]
    for at, part in enumerate(value):
        # What is wrapped is still to be written.
        pieces.extend([" ", [part]] if at > 0 else [[part]])
    return [*pieces, ")"]


def write_artifact(artifact):
    """Return the text of an artifact."""
    texts = []
    left = [[artifact]]
    while left:
        piece = left.pop()
        if isinstance(piece, str):
            texts.append(piece)
        else:
            left.extend(_pieces_of(piece[0])[::-1])
    return "".join(texts)


def _word_at(text, at):
    """Return the pair of the value of a number, a text or a sign at an index and the index behind it."""
    if text[at] in SIGNS:
        return (SIGNS[text[at]], at + 1)
    end = at
    while end < len(text) and text[end] not in " ):":
        end += 1
    number = int(text[at:end])
    if text[end:end + 1] != ":":
        return (number, end)
    return (text[end + 1:end + 1 + number], end + 1 + number)


def read_artifact(text):
    """Return the artifact of a text that was written."""
    # The parts of the tuples that have begun and not ended, within one for all.
    begun = [[]]
    at = 0
    while at < len(text):
        if text[at] == "(":
            begun.append([])
            at += 1
        elif text[at] == ")":
            parts = begun.pop()
            begun[-1].append(tuple(parts))
            at += 1
        elif text[at] == " ":
            at += 1
        else:
            value, at = _word_at(text, at)
            begun[-1].append(value)
    return begun[0][0]


def interface(artifact, shift):
    """Return the text of the interface of an artifact for a shift."""
    return write_artifact(interface_of(artifact, shift))
