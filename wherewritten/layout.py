"""Laying out texts: the same data and remarks, in lines that are not too long if that can be.

A node is what stands for a datum: a tuple (ahead, signs, word, parts, behind, flat) of the remarks
ahead of it, the signs of it (a text), its word or None for a list in brackets, the nodes in the
list, the remarks ahead of its closing bracket, and its text on one line; this is None if a remark
is in it.
"""

from wherewritten.reading import SIGN_NAMES, read, tokens


def _remarks_in(gap):
    """Return the list of the remarks in what stands between two tokens."""
    found = []
    for line in gap.split("\n"):
        at = line.find(";")
        if at != -1:
            found.append(line[at:].rstrip(" "))
    return found


def _words_and_remarks(text):
    """Return the list of the pairs of the remarks ahead of a token and its text, with "" for the end."""
    found = []
    at = 0
    for _, start, end in [*tokens(text), ("end", len(text), len(text))]:
        found.append((_remarks_in(text[at:start]), text[start:end]))
        at = end
    return found


def _flat_text(parts, behind):
    """Return the text of a list on one line, or None if a remark is in it."""
    if behind:
        return None
    texts = []
    for part in parts:
        if part[0] or part[5] is None:
            return None
        texts.append(part[5])
    return "(" + " ".join(texts) + ")"


class Outline:
    """Puts the tokens of a text that can be read together to nodes."""

    def __init__(self):
        # The lists that have begun and not ended: (remarks ahead of them, their signs, nodes in them).
        self.open_lists = [((), "", [])]
        # The remarks and the signs that stand ahead of the next datum.
        self.ahead = []
        self.signs = ""

    def take(self, found, word):
        """Take a token behind some remarks."""
        self.ahead.extend(found)
        if word in SIGN_NAMES:
            self.signs += word
        elif word == "(":
            self.open_lists.append((tuple(self.ahead), self.signs, []))
            self.clear_ahead()
        elif word == ")":
            self.end_list()
        elif word != "":
            self.put((tuple(self.ahead), self.signs, word, (), (), self.signs + word))

    def clear_ahead(self):
        """Begin anew with what stands ahead of the next datum."""
        self.ahead = []
        self.signs = ""

    def end_list(self):
        """End the innermost list."""
        ahead, signs, parts = self.open_lists.pop()
        flat = _flat_text(parts, self.ahead)
        self.put((ahead, signs, None, tuple(parts), tuple(self.ahead), None if flat is None else signs + flat))

    def put(self, node):
        """Put a node into the innermost list."""
        self.open_lists[-1][2].append(node)
        self.clear_ahead()


def _is_list(node):
    """Tell whether a node is a list in brackets, without a sign."""
    return node[2] is None and node[1] == ""


class Sheet:
    """The lines of a text that is laid out for a width."""

    def __init__(self, width):
        self.width = width
        self.lines = []

    def fits(self, node, indent, closing):
        """Tell whether a node is flat at an indent, with some closing brackets directly behind it."""
        return node[5] is not None and len(node[5]) <= self.width - indent - closing

    def begin_line(self, indent):
        """Begin a new line."""
        self.lines.append(" " * indent)

    def write(self, text):
        """Add a text to the last line."""
        self.lines[-1] += text

    def write_remarks(self, remarks_here, indent):
        """Write remarks, each on a line of its own."""
        for remark in remarks_here:
            self.begin_line(indent)
            self.write(remark)

    def lay_out(self, node, indent, closing):
        """Write a node at an indent, where the last line ends."""
        _, signs, word, parts, behind, flat = node
        is_whole = word is not None or not (parts or behind)
        if is_whole or self.fits(node, indent, closing):
            self.write(flat)
        else:
            self.write(signs)
            self.lay_out_list(parts, behind, indent + len(signs), closing)

    def lay_out_list(self, parts, behind, indent, closing):
        """Write a list that is not flat."""
        self.write("(")
        at_end = 0 if behind else closing + 1
        for at, part in enumerate(parts):
            after = at_end if at + 1 == len(parts) else 0
            if at == 1 and self.goes_behind(parts[0], part, indent, after):
                self.write(" " + part[5])
                continue
            inner = indent + 1 if at == 0 else indent + 2
            if at > 0 or part[0]:
                self.write_remarks(part[0], indent + 2)
                self.begin_line(inner)
            self.lay_out(part, inner, after)
        if behind:
            self.write_remarks(behind, indent + 2)
            self.begin_line(indent)
        self.write(")")

    def goes_behind(self, first, second, indent, closing):
        """Tell whether the second part of a list stands in the line of the first one."""
        if second[0] or _is_list(first) or not self.fits(first, indent + 1, 0):
            return False
        return self.fits(second, indent + 1 + len(first[5]) + 1, closing)


def laid_out(text, width):
    """Return a text with the same data and remarks, laid out for a width."""
    read(text)
    outline = Outline()
    for found, word in _words_and_remarks(text):
        outline.take(found, word)
    sheet = Sheet(width)
    for node in outline.open_lists[0][2]:
        sheet.write_remarks(node[0], 0)
        sheet.begin_line(0)
        sheet.lay_out(node, 0, 0)
    sheet.write_remarks(outline.ahead, 0)
    return "".join([line + "\n" for line in sheet.lines])


def remarks(text):
    """Return the list of the remarks of a text, without the spaces at their ends."""
    read(text)
    told = []
    for found, _ in _words_and_remarks(text):
        told.extend(found)
    return told
