"""Deeds: what is done to a sheet as one change, what it writes and takes, and which of them meet."""

from onelook.areas import area_places
from onelook.carried import shift_wave
from onelook.copies import area_come_to, block_changes
from onelook.errors import NoDeed
from onelook.formulas import is_number_row, is_whole
from onelook.places import made_place
from onelook.sheets import with_changes, with_room
from onelook.shifts import made_shift
from onelook.waves import wave_between

# What stands behind each deed's word.
ENTRIES = {
    "put": ("place", "content"),
    "clear": ("place",),
    "copy": ("area", "place"),
    "shift": ("text", "number", "number"),
    "bundle": ("deeds",),
}
SMALL_WORDS = ("put", "clear", "copy")


def is_deed(thing):
    # Only a text is looked up: tuples of any depth may not bear to be keys.
    if not isinstance(thing, tuple) or len(thing) == 0 or not isinstance(thing[0], str):
        return False
    kinds = ENTRIES.get(thing[0])
    if kinds is None or len(thing) != 1 + len(kinds):
        return False
    return all([is_entry(kind, entry) for kind, entry in zip(kinds, thing[1:])])


def is_entry(kind, entry):
    if kind == "place":
        return is_number_row(entry, 2)
    if kind == "area":
        return is_number_row(entry, 4)
    if kind == "number":
        return is_whole(entry)
    if kind == "text":
        return isinstance(entry, str)
    if kind == "deeds":
        return isinstance(entry, tuple) and all([is_small(deed) for deed in entry])
    return is_whole(entry) or isinstance(entry, (str, tuple))


# The word goes first, so that bundles within bundles lead into no depth.
def is_small(thing):
    return isinstance(thing, tuple) and thing[:1] != () and thing[0] in SMALL_WORDS and is_deed(thing)


def deed_wave(sheet, book, deed):
    if not is_deed(deed):
        raise NoDeed("no deed")
    if deed[0] == "shift":
        return shift_wave(sheet, book, made_shift(deed[1], deed[2], deed[3]))
    # A copy, since a bundle may hold no deed at all.
    turned = dict(sheet)
    for small in small_deeds(deed):
        turned = with_changes(turned, changes_by(turned, small))
    return wave_between(sheet, book, with_room(turned))


# The deeds of a bundle; one that is none by itself. Shifts are refused.
def small_deeds(deed):
    if not is_deed(deed) or deed[0] == "shift":
        raise NoDeed("no deed, or a shift")
    return deed[1] if deed[0] == "bundle" else (deed,)


def changes_by(sheet, small):
    if small[0] == "copy":
        return block_changes(sheet, small[1], small[2])
    return {small[1]: small[2] if small[0] == "put" else None}


def writes(deed):
    return reach_of(small_deeds(deed))[0]


def takes(deed):
    return reach_of(small_deeds(deed))[1]


# Both what is written and what is taken, ascending: each deed is looked at whole, whichever is asked for.
def reach_of(smalls):
    written = {}
    taken = {}
    for small in smalls:
        reach = small_reach(small)
        for place in reach[0]:
            written[place] = True
        for place in reach[1]:
            taken[place] = True
    return (sorted(written), sorted(taken))


def small_reach(small):
    if small[0] == "copy":
        area_now = area_come_to(small[1], small[2])
        return (area_places(area_now), area_places(small[1]))
    return ([made_place(small[1][0], small[1][1])], [])


def meet(one, other):
    # That both are deeds is looked at ahead of the places of either.
    smalls = small_deeds(one)
    others = small_deeds(other)
    reach = reach_of(smalls)
    beside = reach_of(others)
    return have_common(reach[0], beside[0] + beside[1]) or have_common(beside[0], reach[1])


def have_common(places, others):
    return len(set(places) & set(others)) > 0
