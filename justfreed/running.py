"""Plain runs of programs."""

from justfreed.checks import checked, index_named
from justfreed.errors import BadArgs, BadLimit
from justfreed.programs import GREATEST_NUMBER, REGISTERS, are_sayings, is_integer, is_number
from justfreed.tables import Tables

MOST_ROWS = 100000
MOST_SAID = 4000


class Call:
    """An open call: its function's rows, the one that is done next, and what its registers have."""

    def __init__(self, rows, values):
        self.rows = rows
        self.at = 0
        self.has = values + [None] * (REGISTERS - len(values))


class Runner:
    """A run: the cells that were made, the open calls, and what the outermost one gave at last.

    A cell is a pair of a maker and what stands at its fields. A tree is told by its first cell's index among
    the cells, so that neither deep trees nor trees that share their parts cost more than their cells.
    """

    def __init__(self, tables):
        self.tables = tables
        self.cells = []
        self.calls = []
        self.given = None


def run(program, name, args, most):
    """("ended", result) if the function ends with at most so many rows done, else ("on",)."""
    checked(program)
    _, functions = program
    _, params, result, rows = functions[index_named(program, name)]
    tables = Tables(program)
    need_args(tables, params, args)
    need_limit(most)
    runner = Runner(tables)
    runner.calls.append(Call(rows, [value_said(tables, runner.cells, arg) for arg in args]))
    for _ in range(most):
        do_row(runner)
        if not runner.calls:
            return ("ended", result_said(tables, runner.cells, result, runner.given))
    return ("on",)


def need_args(tables, params, args):
    """Raises BadArgs for what is no arguments for a function with the params."""
    if type(args) is not tuple or len(args) != len(params):
        raise BadArgs("these are not as many arguments as params, in a tuple")
    for word, arg in zip(params, args):
        if not is_arg(tables, word, arg):
            raise BadArgs("an argument is not of its param's kind")


def is_arg(tables, word, thing):
    """Whether any object is an argument for a param of the word."""
    if word == "number":
        return is_number(thing)
    return are_sayings(tables.makers, word, thing)


def need_limit(most):
    """Raises BadLimit for what is no limit of rows."""
    if not is_integer(most, 0, MOST_ROWS):
        raise BadLimit("this is no integer from 0 to 100000")


def value_said(tables, cells, arg):
    """The number that an argument is, or the index of the first cell of the tree that it says.

    The tree's cells are put behind the cells that there are, in the order of the sayings.
    """
    if type(arg) is int:
        return arg
    many = len([entry for entry in arg if type(entry) is str])
    found = []
    values = []
    # From behind, so that what stands at a maker's fields is there ahead of the maker, the first field last.
    for entry in arg[::-1]:
        if type(entry) is int:
            values.append(entry)
        else:
            _, _, fields = tables.makers[entry]
            at = len(values) - len(fields)
            found.append((entry, values[at:][::-1]))
            values[at:] = [len(cells) + many - len(found)]
    cells.extend(found[::-1])
    return values[0]


def result_said(tables, cells, word, given):
    """What a run gave: a number, or a tree's sayings, or None if these are too many."""
    if word == "number":
        return given
    said = []
    pending = [(word, given)]
    while pending:
        # Shared parts can make a small run's tree too great to be said, so its sayings are counted as they come.
        if len(said) == MOST_SAID:
            return None
        wanted, value = pending.pop()
        if wanted == "number":
            said.append(value)
        else:
            maker, values = cells[value]
            _, _, fields = tables.makers[maker]
            said.append(maker)
            pending.extend(list(zip(fields, values))[::-1])
    return tuple(said)


def wrapped(number):
    """What a sum or difference of two numbers is within the bounds of numbers."""
    return (number + GREATEST_NUMBER) % (2 * GREATEST_NUMBER + 1) - GREATEST_NUMBER


def do_number(runner, call, row):
    """A register gets a number."""
    _, r, number, goto = row
    call.has[r] = number
    call.at = goto


def do_add(runner, call, row):
    """A register gets the sum of two numbers."""
    _, r, a, b, goto = row
    call.has[r] = wrapped(call.has[a] + call.has[b])
    call.at = goto


def do_sub(runner, call, row):
    """A register gets the difference of two numbers."""
    _, r, a, b, goto = row
    call.has[r] = wrapped(call.has[a] - call.has[b])
    call.at = goto


def do_less(runner, call, row):
    """It goes on by which of two numbers is less."""
    _, a, b, below, other = row
    call.at = below if call.has[a] < call.has[b] else other


def do_make(runner, call, row):
    """A register gets a new tree."""
    _, r, maker, args, goto = row
    runner.cells.append((maker, [call.has[arg] for arg in args]))
    call.has[r] = len(runner.cells) - 1
    call.at = goto


def do_match(runner, call, row):
    """It goes on by the maker of a tree, and registers get what stands at its fields."""
    _, a, branches = row
    maker, values = runner.cells[call.has[a]]
    _, index, _ = runner.tables.makers[maker]
    setting, goto = branches[index]
    for r, value in zip(setting, values):
        call.has[r] = value
    call.at = goto


def do_call(runner, call, row):
    """A function begins; the call waits at its row."""
    _, _, name, args, _ = row
    _, _, rows = runner.tables.functions[name]
    runner.calls.append(Call(rows, [call.has[arg] for arg in args]))


def do_give(runner, call, row):
    """The innermost call ends; the one that waits for it goes on, or the run ends."""
    given = call.has[row[1]]
    runner.calls.pop()
    if not runner.calls:
        runner.given = given
        return
    waiting = runner.calls[-1]
    _, r, _, _, goto = waiting.rows[waiting.at]
    waiting.has[r] = given
    waiting.at = goto


DOINGS = {
    "number": do_number,
    "add": do_add,
    "sub": do_sub,
    "less": do_less,
    "make": do_make,
    "match": do_match,
    "call": do_call,
    "give": do_give,
}


def do_row(runner):
    """Does the next row of the innermost call."""
    call = runner.calls[-1]
    row = call.rows[call.at]
    doing = DOINGS[row[0]]
    doing(runner, call, row)
