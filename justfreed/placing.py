"""The told placing, and what other placings hold and do more."""

from justfreed.checks import checked, index_named
from justfreed.judging import FREE, Line, first_fall, need_placing, right_tables
from justfreed.ways import course_named, courses, keeps, needed_at, rows_on


def placed(program):
    """The told placing."""
    checked(program)
    return tuple([told_part(course) for course in courses(program)])


def told_part(course):
    """What the told placing has for a function."""
    needed = needed_at(course)
    rows = [told_row(course, needed, index) for index in range(len(course.rows))]
    return (drops_unneeded(course.begin, needed[0]), tuple(rows))


def told_row(course, needed, index):
    """What the told placing has for a row."""
    kept = kept_behind(course, needed, index)
    edges = []
    for goto, setting in zip(course.leads[index], course.settings[index]):
        trees = [r for r, word in setting if word != "number"]
        edges.append(drops_unneeded(sorted(kept + trees), needed[goto]))
    return (told_holds(course.uses[index], kept), None, tuple(edges))


def drops_unneeded(held, needed):
    """Drops of the registers that are held but not needed."""
    return tuple([("drop", r) for r in held if r not in needed])


def kept_behind(course, needed, index):
    """The ascending registers that are needed at some next of a row that does not set them on the way there."""
    kept = []
    for goto, setting in zip(course.leads[index], course.settings[index]):
        kept.extend([r for r in needed[goto] if keeps(setting, r)])
    return sorted(set(kept))


def told_holds(used, kept):
    """Holds ahead of a row, so that each use has one, and what is kept behind the row another one."""
    holds = []
    for r in sorted(set(used)):
        many = used.count(r) if r in kept else used.count(r) - 1
        holds.extend([("hold", r)] * many)
    return tuple(holds)


def held_more(program, placing):
    """The ascending (function's index, row, register) at which there are more holds than the told placing's."""
    tables = right_tables(program, placing)
    found = []
    for index, course in enumerate(courses(program)):
        needed = needed_at(course)
        for row, holds, _ in tables[index]:
            found.extend([(index, row, r) for r, many in holds if many > (1 if r in needed[row] else 0)])
    return tuple(found)


def deeds_on(program, placing, name, way):
    """How many deeds stand on a way."""
    checked(program)
    need_placing(program, placing)
    rows = rows_on(course_named(program, name), way)
    entry, parts = placing[index_named(program, name)]
    ahead = [len(parts[row][0]) for row in rows]
    gone = [len(parts[row][2][which]) for row, which in zip(rows, way)]
    return len(entry) + sum(ahead) + sum(gone)


def dearer(program, placing):
    """(name, way) of the first whole way on which more deeds are done than by the told placing, or None."""
    right_tables(program, placing)
    for course, part in zip(courses(program), placing):
        # The number of deeds done more is wanted to be none at each give, so a way that falls is a whole one.
        way, _ = first_fall(gap_line(course, part, told_part(course)), course.leads)
        if way is not None:
            return (course.name, way)
    return None


def gap_line(course, part, told):
    """The line of the number of deeds that are done more than told."""
    entry, rows = part
    told_entry, told_rows = told
    ahead = []
    behind = []
    for row, (before, _, edges), (told_before, _, told_edges) in zip(course.rows, rows, told_rows):
        gap = len(before) - len(told_before)
        ahead.append((-gap, -gap, gap) if row[0] == "give" else changing(gap))
        behind.append([changing(len(deeds) - len(other)) for deeds, other in zip(edges, told_edges)])
    return Line(0, changing(len(entry) - len(told_entry)), ahead, behind)


def changing(change):
    """The effect of a change, whatever the number is."""
    low, high, _ = FREE
    return (low, high, change)
