"""Reading: texts, their tokens and their data."""

from wherewritten.errors import ReadError

LONGEST_TEXT = 6000
LONGEST_STRING = 100
LONGEST_NAME = 20
MOST_DIGITS = 30
DEEPEST_LIST = 60

DIGITS = "0123456789"
NAME_SIGNS = "abcdefghijklmnopqrstuvwxyz0123456789!*+-./:<=>?_"
WORD_ENDS = " \n()'\";"
SIGN_NAMES = {"'": "quote", "#'": "syntax"}


def is_name(text):
    """Tell whether a text is a name."""
    if not 1 <= len(text) <= LONGEST_NAME or text in ("...", "_"):
        return False
    if _begins_as_number(text):
        return False
    return all(sign in NAME_SIGNS for sign in text)


def _begins_as_number(word):
    first = word[1:2] if word[0] == "-" else word[0]
    return first != "" and first in DIGITS


def _is_number(word):
    if word == "0":
        return True
    digits = word[1:] if word[0] == "-" else word
    if not 1 <= len(digits) <= MOST_DIGITS or digits[0] == "0":
        return False
    return all(sign in DIGITS for sign in digits)


def _sort_of_word(word):
    if word in ("#t", "#f"):
        return "flag"
    if word == "...":
        return "dots"
    if word == "_":
        return "wild"
    if _is_number(word):
        return "number"
    return "name" if is_name(word) else "wrong"


def _line_end(text, at):
    end = text.find("\n", at)
    return len(text) if end == -1 else end


def _string_at(text, at):
    line_end = _line_end(text, at)
    last = text.find("\"", at + 1)
    if last == -1 or last > line_end:
        return ("wrong", at, line_end)
    sort = "string" if last - at - 1 <= LONGEST_STRING else "wrong"
    return (sort, at, last + 1)


def _word_at(text, at):
    end = at
    while end < len(text) and text[end] not in WORD_ENDS:
        end += 1
    word = text[at:end]
    if word == "#" and text[end:end + 1] == "'":
        return ("sign", at, end + 1)
    return (_sort_of_word(word), at, end)


def _token_at(text, at):
    if text[at] in "()'":
        return ("sign", at, at + 1)
    if text[at] == "\"":
        return _string_at(text, at)
    return _word_at(text, at)


def tokens(text):
    """Return the list of the tokens of a text: tuples (sort, start, end)."""
    found = []
    at = 0
    while at < len(text):
        if text[at] in " \n":
            at += 1
        elif text[at] == ";":
            at = _line_end(text, at)
        else:
            token = _token_at(text, at)
            found.append(token)
            at = token[2]
    return found


def _atom(sort, word, place):
    if sort == "number":
        return ("number", int(word), place)
    if sort == "flag":
        return ("flag", word == "#t", place)
    if sort == "string":
        return ("text", word[1:-1], place)
    if sort == "name":
        return ("name", word, place)
    return (sort, None, place)


class Reader:
    """Puts the tokens of a text together to data, and counts their places."""

    def __init__(self, text):
        self.source = text
        self.forms = []
        self.starts = []
        # The lists that have begun and not ended: (their sign, place, parts).
        self.open_lists = []

    def read_all(self):
        """Take all tokens; raise ReadError at the first one that cannot stand."""
        if len(self.source) > LONGEST_TEXT:
            raise ReadError(LONGEST_TEXT)
        for sort, start, end in tokens(self.source):
            self.take(sort, start, end)
        if self.open_lists:
            raise ReadError(len(self.source))

    def take(self, sort, start, end):
        """Take one token."""
        word = self.source[start:end]
        if sort == "wrong":
            raise ReadError(start)
        if sort != "sign":
            self.put(_atom(sort, word, self.new_place(start)))
        elif word == ")":
            self.end_list(start)
        else:
            self.begin_list(word, start)

    def new_place(self, start):
        """Return the next place, for a datum that begins at an index."""
        self.starts.append(start)
        return len(self.starts) - 1

    def begin_list(self, sign, start):
        """Begin the list for a sign other than the closing one."""
        if len(self.open_lists) == DEEPEST_LIST:
            raise ReadError(start)
        place = self.new_place(start)
        parts = []
        if sign != "(":
            parts.append(("name", SIGN_NAMES[sign], self.new_place(start)))
        self.open_lists.append((sign, place, parts))

    def end_list(self, start):
        """End the innermost list, if it is one that a closing sign ends."""
        if not self.open_lists or self.open_lists[-1][0] != "(":
            raise ReadError(start)
        _, place, parts = self.open_lists.pop()
        self.put(("list", tuple(parts), place))

    def put(self, datum):
        """Put a datum where it stands; it ends the lists of the signs ahead of it."""
        while self.open_lists and self.open_lists[-1][0] != "(":
            _, place, parts = self.open_lists.pop()
            datum = ("list", (parts[0], datum), place)
        if self.open_lists:
            self.open_lists[-1][2].append(datum)
        else:
            self.forms.append(datum)


def read(text):
    """Return the tuple of the forms of a text."""
    reader = Reader(text)
    reader.read_all()
    return tuple(reader.forms)


def offsets(text):
    """Return the list of the indexes at which the data of a text begin, by their places."""
    reader = Reader(text)
    reader.read_all()
    return list(reader.starts)


def spelled(text):
    """Return where the names of a text are spelled out, and where signs stand for names.

    The first one is a dict from places to pairs (start, end), the second one a list of places.
    """
    names = {}
    signs = []
    place = 0
    for sort, start, end in tokens(text):
        word = text[start:end]
        if word == ")":
            continue
        if sort == "name":
            names[place] = (start, end)
        if word in SIGN_NAMES:
            place += 1
            signs.append(place)
        place += 1
    return (names, signs)
