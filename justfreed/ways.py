"""Ways through functions, and the registers that are needed on some way on."""

from justfreed.checks import branch_fields, checked, index_named, reached, words_at
from justfreed.errors import BadRegister, BadRow, BadWay
from justfreed.programs import is_integer, is_register
from justfreed.tables import Tables, nexts, uses, word_given

MOST_GONE = 4000


class Course:
    """What the rows of a function lead to, which registers they use, and which they set on the way to each next."""

    def __init__(self, tables, function):
        name, params, result, rows = function
        words = words_at(tables, function)
        self.name = name
        self.rows = rows
        self.begin = [r for r, word in enumerate(params) if word != "number"]
        self.leads = [nexts(row) for row in rows]
        self.uses = [uses(tables, row, result) for row in rows]
        self.settings = [settings(tables, row, words[index]) for index, row in enumerate(rows)]


def settings(tables, row, has):
    """For each next of a row the pairs of a register that the row sets on the way there and what it sets it to."""
    if row[0] == "match":
        fields = branch_fields(tables, row, has)
        return [list(zip(setting, fields[at])) for at, (setting, _) in enumerate(row[2])]
    if row[0] in ("less", "give"):
        return [[] for _ in nexts(row)]
    return [[(row[1], word_given(tables, row))]]


def courses(program):
    """The courses of a checked program's functions."""
    tables = Tables(program)
    _, functions = program
    return [Course(tables, function) for function in functions]


def course_named(program, name):
    """The course of the function of a checked program that has the name; raises BadName if none has it."""
    index = index_named(program, name)
    _, functions = program
    return Course(Tables(program), functions[index])


def comes_to(program, name, way):
    """The row that a way comes to."""
    checked(program)
    course = course_named(program, name)
    return rows_on(course, way)[-1]


def first_way(program, name, row):
    """The first way that comes to a row."""
    checked(program)
    course = course_named(program, name)
    need_row(course, row)
    return first_indexes(course.leads, 0, [row])


def needs(program, name):
    """For each row the ascending registers that are needed there."""
    checked(program)
    return tuple(needed_at(course_named(program, name)))


def use_ahead(program, name, row, r):
    """The first tuple of indexes from a row to one that uses the register as it is, or None."""
    checked(program)
    course = course_named(program, name)
    need_row(course, row)
    if not is_register(r):
        raise BadRegister("this is no integer from 0 to 31")
    return first_indexes(leads_keeping(course, r), row, rows_using(course, r))


def is_way(course, thing):
    """Whether any object is a way of the function."""
    if type(thing) is not tuple or len(thing) > MOST_GONE:
        return False
    row = 0
    for which in thing:
        if not is_integer(which, 0, len(course.leads[row]) - 1):
            return False
        row = course.leads[row][which]
    return True


def rows_on(course, way):
    """Row 0 and behind it the rows that a way comes to one by one; raises BadWay for what is no way."""
    if not is_way(course, way):
        raise BadWay("this is no way of the function")
    rows = [0]
    for which in way:
        rows.append(course.leads[rows[-1]][which])
    return rows


def need_row(course, row):
    """Raises BadRow for what is no row of the function; in a checked program each one is come to."""
    if not is_integer(row, 0, len(course.rows) - 1):
        raise BadRow("this is no row of the function")


def first_indexes(leads, begin, ends):
    """The first tuple of indexes that leads from a row to one of the ends, or None; a next that is None is not gone."""
    found = {begin: ()}
    waiting = [begin]
    # The rows that wait stand in the sequence of their ways, so the first way that comes to a row is its first one.
    while waiting:
        coming = []
        for row in waiting:
            if row in ends:
                return found[row]
            for which, goto in enumerate(leads[row]):
                if goto is not None and goto not in found:
                    found[goto] = found[row] + (which,)
                    coming.append(goto)
        waiting = coming
    return None


def keeps(setting, r):
    """Whether a register is none of those that are set."""
    return all(other != r for other, _ in setting)


def leads_keeping(course, r):
    """For each row its nexts, None in place of those on the way to which it sets the register."""
    leads = []
    for gotos, row_settings in zip(course.leads, course.settings):
        leads.append([goto if keeps(setting, r) else None for goto, setting in zip(gotos, row_settings)])
    return leads


def rows_using(course, r):
    """The rows that use a register."""
    return [row for row, used in enumerate(course.uses) if r in used]


def rows_needing(course, r):
    """The rows at which a register is needed, as a dict of True."""
    behind = [[] for _ in course.rows]
    for row, gotos in enumerate(leads_keeping(course, r)):
        for goto in gotos:
            if goto is not None:
                behind[goto].append(row)
    return reached(behind, rows_using(course, r))


def needed_at(course):
    """For each row the tuple of the registers that are needed there, ascending."""
    found = [[] for _ in course.rows]
    ever_used = sorted({r for used in course.uses for r in used})
    for r in ever_used:
        for row in rows_needing(course, r):
            found[row].append(r)
    return [tuple(part) for part in found]
