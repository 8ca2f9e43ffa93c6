"""Calling things otherwise: another name for all occurrences that hang together."""

from wherewritten.arrows import all_arrows, all_fixed, all_links, group
from wherewritten.building import Building
from wherewritten.errors import ReadError, StoreError, WhereError
from wherewritten.reading import LONGEST_TEXT, is_name, read, spelled


def compile_all(texts):
    """Return the list of what compiling gives for all modules, in ascending order of their names."""
    building = Building(texts, {})
    names = sorted(list(texts))
    for name in names:
        building.make_sure(name)
    return [building.built[name].result for name in names]


def is_written(texts, occurrence):
    """Tell whether an identifier is written out at an occurrence."""
    module, place = occurrence
    if module not in texts:
        return False
    try:
        read(texts[module])
    except ReadError:
        # Such a text gives no data, so it has no places.
        return False
    return place in spelled(texts[module])[0]


def _renamed(text, places, name):
    """Return a text with another name at some places."""
    spans = spelled(text)[0]
    pieces = []
    at = 0
    for place in sorted(places):
        start, end = spans[place]
        pieces.extend([text[at:start], name])
        at = end
    return "".join([*pieces, text[at:]])


def _all_told(made):
    return (all_arrows(made), all_links(made), all_fixed(made))


def _is_as_before(made, texts):
    """Tell whether modules compile with new texts, with the arrows, links and fixed occurrences as they were."""
    try:
        again = compile_all(texts)
    except WhereError:
        return False
    return _all_told(again) == _all_told(made)


def called_otherwise(texts, occurrence, name):
    """Return the dict of the texts in which the group of an occurrence has a new name."""
    if not is_written(texts, occurrence):
        raise StoreError("place")
    if not is_name(name):
        raise StoreError("name")
    made = compile_all(texts)
    members = group(made, occurrence)
    fixed = {place: True for place in all_fixed(made)}
    for member in members:
        if member in fixed:
            raise StoreError("fixed")
    renamed = {}
    for module in texts:
        places = [place for other, place in members if other == module]
        renamed[module] = _renamed(texts[module], places, name)
    for module in renamed:
        if len(renamed[module]) > LONGEST_TEXT:
            raise StoreError("long")
    if not _is_as_before(made, renamed):
        raise StoreError("changes")
    return renamed
