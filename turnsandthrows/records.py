"""Cascades as texts."""

from turnsandthrows.cascade import Cascade

NO_PLACES = "e"


def write_cascade(cascade):
    """Return the text of the cascade."""
    parts = [" ".join([str(width) for width in cascade.widths])]
    for acts in cascade.acts:
        parts.append(",".join([act_text(key, acts[key]) for key in sorted(acts)]))
    shown = cascade.shown
    parts.append(",".join([f"{places_text(row)}={shown[row]}" for row in sorted(shown)]))
    return "|".join(parts)


def act_text(key, act):
    """Return the text of an act for the pair of a prefix and a letter."""
    return f"{places_text(key[0])} {key[1]} {places_text(act)}"


def places_text(places):
    """Return the text of a prefix, an act or a row."""
    if len(places) == 0:
        return NO_PLACES
    return ".".join([str(place) for place in places])


def read_cascade(text):
    """Return the cascade whose text it is."""
    parts = text.split("|")
    widths = [int(width) for width in parts[0].split()]
    shown = {}
    for part in parts_of(parts[-1]):
        row, state = part.split("=")
        shown[read_places(row)] = int(state)
    return Cascade(widths, [read_acts(part) for part in parts[1:-1]], shown)


def parts_of(text):
    """Return the list of the parts of the text, which have a comma between them."""
    return text.split(",") if len(text) > 0 else []


def read_acts(text):
    """Return the dict of the acts of a level."""
    acts = {}
    for part in parts_of(text):
        prefix, letter, act = part.split(" ")
        acts[(read_places(prefix), letter)] = read_places(act)
    return acts


def read_places(text):
    """Return the tuple of integers that is written as a prefix, an act or a row."""
    if text == NO_PLACES:
        return ()
    return tuple([int(place) for place in text.split(".")])
