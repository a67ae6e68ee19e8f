"""Placings: their form, and which of them are right."""

from justfreed.checks import checked, index_named, is_named_in
from justfreed.errors import BadPlacing, NotRight
from justfreed.programs import (
    REGISTERS, begins_with_word, has_parts, is_integer, is_pair, is_register, is_tuple_of)
from justfreed.tables import nexts
from justfreed.ways import course_named, courses, is_way, rows_on

TOKENS = 16
MOST_DEEDS = 60
# Beyond the holds that any way can bring: there are 4,000 entries at most, and 120 deeds at most for each.
MANY = 1000000
# What is within these bounds always fits, and nothing changes.
FREE = (-1000000, 1000000, 0)


def is_token(thing):
    """Whether any object is a token."""
    return is_integer(thing, 0, TOKENS - 1)


def is_size(thing):
    """Whether any object is the size of a room."""
    return is_integer(thing, 0, 4)


DEED_FORMS = {
    "hold": (is_register,),
    "drop": (is_register,),
    "free": (is_token, is_size),
}


def is_deed(thing):
    """Whether any object is a deed."""
    return begins_with_word(thing) and thing[0] in DEED_FORMS and has_parts(thing, DEED_FORMS[thing[0]])


def are_deeds(thing):
    """Whether any object is a tuple of deeds as one spot may have it."""
    return is_tuple_of(thing, 0, MOST_DEEDS, is_deed)


def is_any_tuple(thing):
    """Whether any object is a tuple."""
    return type(thing) is tuple


def fits_row(row, thing):
    """Whether any object is what a placing may have for a row."""
    if type(thing) is not tuple or len(thing) != 3:
        return False
    before, token, edges = thing
    if token is not None and not (row[0] in ("match", "make") and is_token(token)):
        return False
    many = len(nexts(row))
    return are_deeds(before) and is_tuple_of(edges, many, many, are_deeds)


def fits_function(function, thing):
    """Whether any object is what a placing may have for a function."""
    _, _, _, rows = function
    if not is_pair(thing, are_deeds, is_any_tuple) or len(thing[1]) != len(rows):
        return False
    return all([fits_row(row, part) for row, part in zip(rows, thing[1])])


def fits_program(program, thing):
    """Whether any object has the form of a placing of a checked program."""
    _, functions = program
    if type(thing) is not tuple or len(thing) != len(functions):
        return False
    return all([fits_function(function, part) for function, part in zip(functions, thing)])


def is_placing(program, thing):
    """Whether any object is a placing of the program."""
    checked(program)
    return fits_program(program, thing)


def need_placing(program, placing):
    """Raises BadPlacing for what is no placing of a checked program."""
    if not fits_program(program, placing):
        raise BadPlacing("this is no placing of the program")


class Wants:
    """What a placing's deeds and a function's rows want of the state, at the entry, ahead of and behind each row.

    A state has a number in each slot: a register's holds in the slot of the register, and behind all registers for
    each token 0, or the size of its room and 1. A want is (fault, slot, least, most, change): the fault is there if
    the slot's number is not from least to most; else the number changes. What stands ahead of a row is its deeds
    of before, and the row itself as far as it is done whatever next it goes to.
    """

    def __init__(self, course, part):
        entry, rows = part
        self.entry = [deed_want(deed) for deed in entry]
        self.ahead = [wants_ahead(course, index, done) for index, done in enumerate(rows)]
        self.behind = [wants_behind(course, index, done) for index, done in enumerate(rows)]
        # All others are 0 everywhere, so that none of their faults can be there.
        self.slots = slots_wanted(course.begin, self)
        for index, row in enumerate(course.rows):
            if row[0] == "give":
                self.ahead[index].extend([nothing_want(slot) for slot in self.slots])


def slots_wanted(begin, wants):
    """The ascending slots of the registers that are held as a function begins, and of all that is wanted then."""
    found = begin + [want[1] for want in wants.entry]
    for row_wants in wants.ahead:
        found.extend([want[1] for want in row_wants])
    for edges in wants.behind:
        found.extend([want[1] for edge in edges for want in edge])
    return sorted(set(found))


def deed_want(deed):
    """The want of a deed."""
    if deed[0] == "free":
        return token_want("free", deed[1], deed[2])
    return hold_want(deed[0], deed[1], 1 if deed[0] == "hold" else -1)


def hold_want(word, r, change):
    """The want of what takes a hold of a register, or makes one more."""
    return ((word, r), r, 1, MANY, change)


def token_want(word, token, size):
    """The want of what takes a token of the size."""
    return ((word, token), REGISTERS + token, size + 1, size + 1, -size - 1)


def no_token_want(token, change):
    """The want of what takes it that there is no such token."""
    return (("token", token), REGISTERS + token, 0, 0, change)


def nothing_want(slot):
    """The want of a give, behind its use, that nothing is left in a slot."""
    return (("left", slot), slot, 0, 0, 0) if slot < REGISTERS else no_token_want(slot - REGISTERS, 0)


def wants_ahead(course, index, done):
    """The wants of a row's deeds of before, and of the row itself; what a give wants behind its use is left out."""
    before, token, _ = done
    row = course.rows[index]
    found = [deed_want(deed) for deed in before]
    found.extend([hold_want("use", r, -1) for r in course.uses[index]])
    if token is not None and row[0] == "make":
        found.append(token_want("token", token, len(row[3])))
    if token is not None and row[0] == "match":
        found.append(no_token_want(token, 0))
    return found


def wants_behind(course, index, done):
    """For each next of a row the wants of what is set on the way there, and of the edge's deeds."""
    _, token, edges = done
    found = []
    for setting, deeds in zip(course.settings[index], edges):
        wants = [(("bind", r), r, 0, 0, 0 if word == "number" else 1) for r, word in setting]
        if token is not None and course.rows[index][0] == "match":
            wants.append(no_token_want(token, len(setting) + 1))
        found.append(wants + [deed_want(deed) for deed in deeds])
    return found


def begin_state(course):
    """The state as a function begins."""
    return [1 if slot in course.begin else 0 for slot in range(REGISTERS + TOKENS)]


def first_unmet(state, wants):
    """The fault of the first want that is not met, or None; the state changes by all wants ahead of it."""
    for fault, slot, least, most, change in wants:
        if not least <= state[slot] <= most:
            return fault
        state[slot] += change
    return None


def fault_on(course, wants, way):
    """The first fault on a way, or None, and the number of entries of the beginning that it belongs to."""
    rows = rows_on(course, way)
    state = begin_state(course)
    fault = first_unmet(state, wants.entry + wants.ahead[0])
    many = 0
    while fault is None and many < len(way):
        fault = first_unmet(state, wants.behind[rows[many]][way[many]] + wants.ahead[rows[many + 1]])
        many += 1
    return fault, many


class Line:
    """What one number is as a function begins, and what it must be and how it changes at each spot.

    An effect is (least, most, change): the way falls if the number is not from least to most; else it changes.
    """

    def __init__(self, begin, entry, ahead, behind):
        self.begin = begin
        self.entry = entry
        self.ahead = ahead
        self.behind = behind


def joined(one, other):
    """The effect of two effects, one behind the other."""
    low, high, gain = one
    least, most, change = other
    return (max(low, least - gain), min(high, most - gain), gain + change)


def effects(wants):
    """For each slot that is wanted somehow the effect of all of the wants together."""
    found = {}
    for _, slot, least, most, change in wants:
        found[slot] = joined(found.get(slot, FREE), (least, most, change))
    return found


def lines(course, wants):
    """For each slot that is wanted the line of its number."""
    begin = begin_state(course)
    entry = effects(wants.entry)
    ahead = [effects(row_wants) for row_wants in wants.ahead]
    behind = [[effects(edge) for edge in edges] for edges in wants.behind]
    found = []
    for slot in wants.slots:
        slot_ahead = [row.get(slot, FREE) for row in ahead]
        slot_behind = [[edge.get(slot, FREE) for edge in edges] for edges in behind]
        found.append(Line(begin[slot], entry.get(slot, FREE), slot_ahead, slot_behind))
    return found


def number_behind(number, effect):
    """What a number is behind an effect, or None where the way falls."""
    least, most, change = effect
    return number + change if least <= number <= most else None


def first_fall(line, leads):
    """The first way on which the number falls, or None, and for each row the numbers that come there."""
    came = [[] for _ in leads]
    number = number_behind(line.begin, line.entry)
    if number is None or number_behind(number, line.ahead[0]) is None:
        return (), came
    came[0].append(number)
    waiting = [((), 0, number)]
    # Those that wait stand in the sequence of their ways, so the first way that is seen to fall is the first one.
    while waiting:
        coming = []
        for way, row, there in waiting:
            done = number_behind(there, line.ahead[row])
            for which, goto in enumerate(leads[row]):
                number = number_behind(done, line.behind[row][which])
                if number is None or number_behind(number, line.ahead[goto]) is None:
                    return way + (which,), came
                if tells_more(came[goto], number):
                    came[goto].append(number)
                    coming.append((way + (which,), goto, number))
        waiting = coming
    return None, came


def tells_more(numbers, number):
    """Whether a number that comes to a row behind others may be the one with which the first way falls.

    Wanted is so much at least, or just so much. Where it is just so much, one of any two unlike numbers is wrong.
    So behind two others a number can be wrong ahead of them only where it is so much at least, and it is the least.
    """
    if len(numbers) < 2:
        return number not in numbers
    return number < min(numbers)


def in_sequence(way):
    """A key by which ways are sorted as they stand in their sequence."""
    return (len(way), way)


def table_of(rows, slots, told):
    """A function's table; for each slot the numbers are told that come to each row, one to each."""
    table = []
    for row in range(len(rows)):
        state = [(slot, came[row][0]) for slot, came in zip(slots, told)]
        holds = [(slot, number) for slot, number in state if slot < REGISTERS and number > 0]
        tokens = [(slot - REGISTERS, number - 1) for slot, number in state if slot >= REGISTERS and number > 0]
        table.append((row, tuple(holds), tuple(tokens)))
    return tuple(table)


def judged(course, part):
    """A function's table, if the placing is right for it, and None; else None and (name, way, fault)."""
    wants = Wants(course, part)
    # A fault concerns one slot alone, so the first way that falls is that of some slot by itself.
    told = [first_fall(line, course.leads) for line in lines(course, wants)]
    ways = [way for way, _ in told if way is not None]
    if not ways:
        return table_of(course.rows, wants.slots, [came for _, came in told]), None
    way = min(ways, key=in_sequence)
    fault, _ = fault_on(course, wants, way)
    return None, (course.name, way, fault)


def judge(program, placing):
    """("right", tables), or ("wrong", name, way, fault) of the first way that falls."""
    checked(program)
    need_placing(program, placing)
    tables = []
    for course, part in zip(courses(program), placing):
        table, wrong = judged(course, part)
        if wrong is not None:
            return ("wrong", *wrong)
        tables.append(table)
    return ("right", tuple(tables))


def right_tables(program, placing):
    """The tables of a right placing; raises what judge does, and NotRight of one that is not right."""
    told = judge(program, placing)
    if told[0] == "wrong":
        raise NotRight(told[1:])
    return told[1]


def is_same(thing, told):
    """Whether any object is equal to what is told, True and False being no integers."""
    if type(told) is not tuple:
        return type(thing) is type(told) and thing == told
    if type(thing) is not tuple or len(thing) != len(told):
        return False
    return all([is_same(part, other) for part, other in zip(thing, told)])


def is_table(program, placing, thing):
    """Whether any object is the tables that show a placing right."""
    told = judge(program, placing)
    return told[0] == "right" and is_same(thing, told[1])


def is_wrong(program, placing, thing):
    """Whether any object is (name, way, fault) of a way that falls with just this fault as its first one."""
    checked(program)
    need_placing(program, placing)
    if type(thing) is not tuple or len(thing) != 3 or not is_named_in(program, thing[0]):
        return False
    name, way, fault = thing
    course = course_named(program, name)
    if not is_way(course, way):
        return False
    index = index_named(program, name)
    found, many = fault_on(course, Wants(course, placing[index]), way)
    return found is not None and many == len(way) and is_same(fault, found)
