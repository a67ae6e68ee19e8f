"""Runs of programs with a placing, on the machine whose cells are counted.

What a register has is a pair: ("number", n), or ("cell", serial). Where a fault is told it is its word, or None.
"""

from justfreed.checks import checked, index_named
from justfreed.judging import need_placing
from justfreed.programs import REGISTERS
from justfreed.running import need_args, need_limit, result_said, value_said, wrapped
from justfreed.tables import Tables
from justfreed.ways import courses


class OpenCall:
    """An open call: its function, the row that is done next, and what its registers and tokens have.

    The rooms are the sizes of those that tokens have, by token; a token without a room is none of them.
    """

    def __init__(self, course, part, values):
        entry, done = part
        self.course = course
        self.entry = entry
        self.done = done
        self.at = 0
        self.has = values + [None] * (REGISTERS - len(values))
        self.rooms = {}


class Machine:
    """The machine: its cells, the open calls, what the outermost one gave at last, and what was done so far.

    A cell is a pair of a maker and the numbers and serials at its fields. A serial is an index among the cells, and
    among the counts, of which that of a cell that went is 0.
    """

    def __init__(self, program, placing):
        self.tables = Tables(program)
        self.bodies = {course.name: (course, part) for course, part in zip(courses(program), placing)}
        self.cells = []
        self.counts = []
        self.calls = []
        self.given = None
        self.rows_done = 0
        self.holds = 0
        self.drops = 0
        self.new_rooms = 0
        self.used_rooms = 0
        self.there = 0
        self.most_there = 0


def drive(program, placing, name, args, most):
    """("ended", result, counts), ("on", None, counts) behind so many rows, or ("fault", word, counts)."""
    machine, fault = driven(program, placing, name, args, most)
    if fault is not None:
        return ("fault", fault, counts_told(machine))
    if machine.calls:
        return ("on", None, counts_told(machine))
    _, result, _ = machine.tables.functions[name]
    said = result_said(machine.tables, machine.cells, result, machine.given)
    return ("ended", said, counts_told(machine))


def look(program, placing, name, args, rows):
    """(calls, cells) as they are behind so many rows, or None if there are none to come, or a fault came."""
    machine, fault = driven(program, placing, name, args, rows)
    if fault is not None or not machine.calls:
        return None
    return (tuple([call_told(call) for call in machine.calls]), cells_told(machine))


def driven(program, placing, name, args, most):
    """The machine behind so many rows, or where it ended or a fault came; and the fault."""
    checked(program)
    need_placing(program, placing)
    _, functions = program
    _, params, _, _ = functions[index_named(program, name)]
    machine = Machine(program, placing)
    need_args(machine.tables, params, args)
    need_limit(most)
    values = [value_said(machine.tables, machine.cells, arg) for arg in args]
    machine.counts = [1 for _ in machine.cells]
    machine.there = len(machine.cells)
    machine.most_there = machine.there
    fault = begun(machine, name, [content(word, value) for word, value in zip(params, values)])
    done = 0
    while fault is None and machine.calls and done < most:
        fault = do_row(machine)
        done += 1
    return machine, fault


def content(word, value):
    """What a register has that has what stands for a word: a number, or the serial of a cell of a kind."""
    return ("number", value) if word == "number" else ("cell", value)


def entries_of(machine, serial):
    """What stands at a cell's fields, each as a register has it."""
    maker, values = machine.cells[serial]
    _, _, fields = machine.tables.makers[maker]
    return [content(word, value) for word, value in zip(fields, values)]


def inner_cells(machine, serial):
    """The serials at a cell's fields, as often as they stand there."""
    maker, values = machine.cells[serial]
    _, _, fields = machine.tables.makers[maker]
    return [value for word, value in zip(fields, values) if word != "number"]


def counts_told(machine):
    """The seven counts."""
    return (machine.rows_done, machine.holds, machine.drops, machine.new_rooms, machine.used_rooms,
            machine.most_there, machine.there)


def call_told(call):
    """(function's name, row, registers, tokens) of an open call."""
    has = [(r, value) for r, value in enumerate(call.has) if value is not None]
    return (call.course.name, call.at, tuple(has), tuple(sorted(call.rooms.items())))


def cells_told(machine):
    """(serial, count, maker, entries) of each cell that is there."""
    told = []
    for serial, many in enumerate(machine.counts):
        if many > 0:
            maker, _ = machine.cells[serial]
            told.append((serial, many, maker, tuple(entries_of(machine, serial))))
    return tuple(told)


def begun(machine, name, has):
    """Opens a call of a function whose params have so much; the fault of its entry's deeds."""
    course, part = machine.bodies[name]
    call = OpenCall(course, part, has)
    machine.calls.append(call)
    return deeds_fault(machine, call, call.entry)


def deeds_fault(machine, call, deeds):
    """Does deeds up to the first that faults, and tells its fault."""
    for deed in deeds:
        fault = free_fault(call, deed) if deed[0] == "free" else count_fault(machine, call, deed)
        if fault is not None:
            return fault
    return None


def free_fault(call, deed):
    """Gives a token's room back, or tells the fault."""
    _, token, size = deed
    # A token without a room may be freed with any size.
    if call.rooms.get(token, size) != size:
        return "token"
    call.rooms.pop(token, None)
    return None


def count_fault(machine, call, deed):
    """Does a hold or a drop, or tells its fault."""
    word, r = deed
    if call.has[r] is None or call.has[r][0] == "number":
        return "unset"
    serial = call.has[r][1]
    if machine.counts[serial] == 0:
        return "gone"
    if word == "hold":
        machine.counts[serial] += 1
        machine.holds += 1
    else:
        let_go(machine, serial)
        machine.drops += 1
    return None


def let_go(machine, serial):
    """Lets a cell go once, and with the last holder of a cell what stands in its fields."""
    waiting = [serial]
    while waiting:
        at = waiting.pop()
        if machine.counts[at] == 1:
            machine.there -= 1
            waiting.extend(inner_cells(machine, at))
        # Those that went already are passed over.
        if machine.counts[at] > 0:
            machine.counts[at] -= 1


def do_row(machine):
    """Does the next row of the innermost call with its deeds, or tells the first fault."""
    call = machine.calls[-1]
    row = call.course.rows[call.at]
    before, token, _ = call.done[call.at]
    fault = deeds_fault(machine, call, before)
    if fault is None:
        fault = row_fault(machine, call, row, token)
    if fault is not None:
        return fault
    machine.rows_done += 1
    doing = DOINGS[row[0]]
    return doing(machine, call, row, token)


def row_fault(machine, call, row, token):
    """The fault of a row by itself, ahead of all that it does."""
    for r in call.course.uses[call.at]:
        _, serial = call.has[r]
        if machine.counts[serial] == 0:
            return "gone"
    if row[0] == "match" and token in call.rooms:
        return "token"
    if row[0] == "make" and call.rooms.get(token, len(row[3])) != len(row[3]):
        return "token"
    if row[0] == "give" and call.rooms:
        return "token"
    return None


def gone_on(machine, call, which):
    """Goes on to one of the nexts of the call's row; the fault of the edge's deeds."""
    _, _, edges = call.done[call.at]
    call.at = call.course.leads[call.at][which]
    return deeds_fault(machine, call, edges[which])


def number_in(call, r):
    """The number that a register has."""
    _, number = call.has[r]
    return number


def do_number(machine, call, row, _):
    """A register gets a number."""
    call.has[row[1]] = ("number", row[2])
    return gone_on(machine, call, 0)


def do_add(machine, call, row, _):
    """A register gets the sum of two numbers."""
    call.has[row[1]] = ("number", wrapped(number_in(call, row[2]) + number_in(call, row[3])))
    return gone_on(machine, call, 0)


def do_sub(machine, call, row, _):
    """A register gets the difference of two numbers."""
    call.has[row[1]] = ("number", wrapped(number_in(call, row[2]) - number_in(call, row[3])))
    return gone_on(machine, call, 0)


def do_less(machine, call, row, _):
    """It goes on by which of two numbers is less."""
    return gone_on(machine, call, 0 if number_in(call, row[1]) < number_in(call, row[2]) else 1)


def do_make(machine, call, row, token):
    """A register gets a new cell, in the token's room or a new one."""
    _, r, maker, args, _ = row
    if token in call.rooms:
        call.rooms.pop(token)
        machine.used_rooms += 1
    else:
        machine.new_rooms += 1
    machine.cells.append((maker, [call.has[arg][1] for arg in args]))
    machine.counts.append(1)
    machine.there += 1
    machine.most_there = max(machine.most_there, machine.there)
    call.has[r] = ("cell", len(machine.cells) - 1)
    return gone_on(machine, call, 0)


def do_match(machine, call, row, token):
    """It goes on by the maker of a cell, which goes if nothing else holds it, and registers get what it had."""
    _, a, branches = row
    _, serial = call.has[a]
    maker, values = machine.cells[serial]
    _, which, _ = machine.tables.makers[maker]
    if machine.counts[serial] == 1:
        machine.there -= 1
        if token is not None:
            call.rooms[token] = len(values)
    else:
        hold_inner(machine, serial)
    machine.counts[serial] -= 1
    setting, _ = branches[which]
    for r, value in zip(setting, entries_of(machine, serial)):
        call.has[r] = value
    return gone_on(machine, call, which)


def hold_inner(machine, serial):
    """The counts of the cells at a cell's fields grow, of those that did not go."""
    for inner in inner_cells(machine, serial):
        if machine.counts[inner] > 0:
            machine.counts[inner] += 1


def do_call(machine, call, row, _):
    """A function begins; the call waits at its row."""
    _, _, name, args, _ = row
    return begun(machine, name, [call.has[arg] for arg in args])


def do_give(machine, call, row, _):
    """The innermost call ends; the one that waits for it goes on, or the run ends."""
    given = call.has[row[1]]
    machine.calls.pop()
    if not machine.calls:
        _, machine.given = given
        return None
    waiting = machine.calls[-1]
    _, r, _, _, _ = waiting.course.rows[waiting.at]
    waiting.has[r] = given
    return gone_on(machine, waiting, 0)


DOINGS = {
    "number": do_number,
    "add": do_add,
    "sub": do_sub,
    "less": do_less,
    "make": do_make,
    "match": do_match,
    "call": do_call,
    "give": do_give,
}
