"""Rooms of cells that are let go, and used anew."""

from justfreed.checks import checked, index_named
from justfreed.errors import TooGreat
from justfreed.judging import TOKENS, need_placing, right_tables
from justfreed.placing import told_part
from justfreed.ways import course_named, courses, rows_on


def reusing(program):
    """The told placing with tokens put in, in plain functions."""
    checked(program)
    parts = []
    for course in courses(program):
        part = told_part(course)
        parts.append(with_tokens(course, part) if is_plain(course) else part)
    return tuple(parts)


def is_plain(course):
    """Whether each row has just one way to it."""
    come_to = [goto for gotos in course.leads for goto in gotos]
    return sorted(come_to) == list(range(1, len(course.rows)))


def rows_in_order(course):
    """The rows of a plain function, each behind the one that leads to it."""
    order = []
    waiting = [0]
    while waiting:
        row = waiting.pop()
        order.append(row)
        waiting.extend(course.leads[row])
    return order


def is_match(course, row):
    """Whether a row is a match."""
    return course.rows[row][0] == "match"


def eldest_of(rooms, size):
    """The match whose room is the first one of the size, or None; rooms are pairs of a match's row and a size."""
    for match_row, other in rooms:
        if other == size:
            return match_row
    return None


def rooms_used(course, order):
    """For each make that uses a room the match whose room it is, each match's room being there."""
    there = {0: []}
    used = {}
    for row in order:
        rooms = there[row]
        match_row = eldest_of(rooms, len(course.rows[row][3])) if course.rows[row][0] == "make" else None
        if match_row is not None:
            used[row] = match_row
        left = [room for room in rooms if room[0] != match_row]
        for goto, setting in zip(course.leads[row], course.settings[row]):
            there[goto] = left + [(row, len(setting))] if is_match(course, row) else left
    return used


def rooms_wanted(course, order, used):
    """For each row the matches whose rooms are used there or on some way on."""
    wanted = {}
    for row in order[::-1]:
        wanted[row] = [used[row]] if row in used else []
        for goto in course.leads[row]:
            wanted[row].extend(wanted[goto])
    return wanted


def with_tokens(course, part):
    """What a placing has for a plain function, with tokens put in."""
    order = rows_in_order(course)
    used = rooms_used(course, order)
    wanted = rooms_wanted(course, order, used)
    entry, rows = part
    found = {}
    # For each row the tokens that are there ahead of it: under the match's row the token and its size.
    there = {0: {}}
    for row in order:
        before, _, edges = rows[row]
        token = token_at(row, there[row], used, wanted[row])
        freeing = []
        for which, goto in enumerate(course.leads[row]):
            behind = tokens_behind(course, row, which, there[row], token)
            there[goto] = {match_row: kept for match_row, kept in behind.items() if match_row in wanted[goto]}
            left = [kept for match_row, kept in behind.items() if match_row not in wanted[goto]]
            freeing.append(edges[which] + tuple([("free", number, size) for number, size in sorted(left)]))
        found[row] = (before, token, tuple(freeing))
    return (entry, tuple([found[row] for row in range(len(rows))]))


def token_at(row, tokens, used, wanted):
    """The token of a row ahead of which so many are there, or None."""
    if row in used:
        number, _ = tokens[used[row]]
        return number
    return lowest_free([number for number, _ in tokens.values()]) if row in wanted else None


def lowest_free(numbers):
    """The lowest token that is none of these."""
    for token in range(TOKENS):
        if token not in numbers:
            return token
    raise TooGreat("there would be more than sixteen tokens at once")


def tokens_behind(course, row, which, tokens, token):
    """The tokens that are there behind a row with a token, on the way to one of its nexts, ahead of its frees."""
    left = {match_row: kept for match_row, kept in tokens.items() if kept[0] != token}
    if token is not None and is_match(course, row):
        left[row] = (token, len(course.settings[row][which]))
    return left


def used_anew(program, placing, name, way):
    """How many makes with a token a way passes."""
    checked(program)
    need_placing(program, placing)
    course = course_named(program, name)
    passed = rows_on(course, way)[:-1]
    _, parts = placing[index_named(program, name)]
    return len([row for row in passed if is_make_with_token(course.rows[row], parts[row])])


def is_make_with_token(row, part):
    """Whether a row is a make that has a token."""
    _, token, _ = part
    return row[0] == "make" and token is not None


def in_place(program, placing):
    """The ascending names of the functions that are judged in place."""
    right_tables(program, placing)
    _, functions = program
    lot = {}
    for function, part in zip(functions, placing):
        name, _, _, rows = function
        if not has_hold(part) and makes_anew(rows, part):
            lot[name] = [row[2] for row in rows if row[0] == "call"]
    return tuple(sorted(closed(lot)))


def has_hold(part):
    """Whether a hold stands anywhere in what a placing has for a function."""
    entry, rows = part
    spots = [entry]
    for before, _, edges in rows:
        spots.append(before)
        spots.extend(edges)
    return any([deed[0] == "hold" for deeds in spots for deed in deeds])


def makes_anew(rows, part):
    """Whether each make of a function has a token."""
    _, parts = part
    return all([row[0] != "make" or is_make_with_token(row, done) for row, done in zip(rows, parts)])


def closed(lot):
    """The greatest part of a lot in which each function calls those of the part alone; it leads to what each calls."""
    kept = {name: called for name, called in lot.items() if all([other in lot for other in called])}
    while len(kept) < len(lot):
        lot = kept
        kept = {name: called for name, called in lot.items() if all([other in lot for other in called])}
    return list(kept)
