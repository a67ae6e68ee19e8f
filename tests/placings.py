"""Placings put together for tests: spots are named as in [23], ("entry",), ("before", row), ("edge", row, which)."""

from tests.reference import nexts_of

HOLD, DROP = "hold", "drop"


def bare(program):
    """The placing without deeds and tokens."""
    return tuple(((), tuple(((), None, ((),) * len(nexts_of(row))) for row in function[3])) for function in program[1])


def deeds_at(placing, index, spot):
    entry, rows = placing[index]
    if spot[0] == "entry":
        return entry
    before, _, edges = rows[spot[1]]
    return before if spot[0] == "before" else edges[spot[2]]


def with_deeds(placing, index, spot, deeds):
    """The placing with other deeds at a spot."""
    entry, rows = placing[index]
    if spot[0] == "entry":
        entry = deeds
    else:
        before, token, edges = rows[spot[1]]
        if spot[0] == "before":
            before = deeds
        else:
            edges = edges[:spot[2]] + (deeds,) + edges[spot[2] + 1:]
        rows = rows[:spot[1]] + ((before, token, edges),) + rows[spot[1] + 1:]
    return placing[:index] + ((entry, rows),) + placing[index + 1:]


def with_token(placing, index, at, token):
    """The placing with another token at a row."""
    entry, rows = placing[index]
    before, _, edges = rows[at]
    rows = rows[:at] + ((before, token, edges),) + rows[at + 1:]
    return placing[:index] + ((entry, rows),) + placing[index + 1:]


def placing_of(program, spots=None, tokens=None, index=0):
    """A placing with deeds by spots and tokens by rows in one function, without any in the others."""
    placing = bare(program)
    for spot, deeds in (spots or {}).items():
        placing = with_deeds(placing, index, spot, deeds)
    for at, token in (tokens or {}).items():
        placing = with_token(placing, index, at, token)
    return placing


def spots_of(placing):
    """(function's index, spot) of all spots."""
    found = []
    for index, (_, rows) in enumerate(placing):
        found.append((index, ("entry",)))
        for at, (_, _, edges) in enumerate(rows):
            found.append((index, ("before", at)))
            found += [(index, ("edge", at, which)) for which in range(len(edges))]
    return found


def leads_of(rows):
    """(spot, point from, point to) for all spots; the entry leads from None."""
    found = [(("entry",), None, ("start", 0))]
    for at, row in enumerate(rows):
        found.append((("before", at), ("start", at), ("mid", at)))
        found += [(("edge", at, which), ("mid", at), ("start", goto)) for which, goto in enumerate(nexts_of(row))]
    return found


def hold(*registers):
    return tuple((HOLD, r) for r in registers)


def drop(*registers):
    return tuple((DROP, r) for r in registers)


def free(token, size):
    return (("free", token, size),)
