"""What [8] to [19] say, written as plainly as can be, to compare the package with on small programs.

It takes programs that are right and placings that are right by form alone, goes ways one by one, and is slow.
"""

from tests import reference
from tests.reference import nexts_of

class Function:
    """A function with what its rows use and set."""

    def __init__(self, program, name):
        self.words = reference.Words(program)
        self.whole = self.words.functions[name]
        self.name, self.params, self.result, self.rows = self.whole
        self.has = reference.assignment(self.words, self.whole)

    def uses(self, at):
        return [r for r, word in reference.reading(self.words, self.whole, self.rows[at]) if word != "number"]

    def sets(self, at, which):
        """(register, whether it is set to a tree) in the order of the fields."""
        found = reference.sets_on(self.words, self.rows[at], which, self.has[at])
        return [(r, word != "number") for r, word in found.items()]

    def size(self, at, which):
        return len(self.rows[at][2][which][0])

    def ways(self, longest, begin=0):
        """All tuples of indexes from a row on with the row that they come to, in their sequence."""
        level = [((), begin)]
        while level:
            yield from level
            if len(level[0][0]) == longest:
                return
            level = [(way + (which,), goto) for way, at in level for which, goto in enumerate(nexts_of(self.rows[at]))]

    def rows_of(self, way):
        found = [0]
        for which in way:
            found.append(nexts_of(self.rows[found[-1]])[which])
        return found


def functions_of(program):
    return [Function(program, function[0]) for function in program[1]]


def needed(function):
    """For each row the registers that are needed, by steps of one next at a time."""
    found = [set(function.uses(at)) for at in range(len(function.rows))]
    before = None
    while before != found:
        before = [set(part) for part in found]
        for at, row in enumerate(function.rows):
            for which, goto in enumerate(nexts_of(row)):
                found[at] |= before[goto] - {r for r, _ in function.sets(at, which)}
    return found


def use_ahead(function, row, r, longest):
    """The first tuple of indexes, among all up to a length; None if there is none so short."""
    for way, end in function.ways(longest, row):
        at = row
        passed = True
        for which in way:
            if r in function.uses(at) or r in [other for other, _ in function.sets(at, which)]:
                passed = False
                break
            at = nexts_of(function.rows[at])[which]
        if passed and r in function.uses(end):
            return way
    return None


class State:
    """Holds by register and sizes by token, those that are not there left out."""

    def __init__(self, holds, tokens):
        self.holds = dict(holds)
        self.tokens = dict(tokens)

    def copy(self):
        return State(self.holds, self.tokens)

    def told(self):
        return (tuple(sorted((r, many) for r, many in self.holds.items() if many > 0)),
                tuple(sorted(self.tokens.items())))

    def take(self, word, r):
        """The fault if there is no hold, else None and there is one less."""
        if self.holds.get(r, 0) == 0:
            return (word, r)
        self.holds[r] -= 1
        return None

    def do(self, deed):
        if deed[0] == "free":
            if self.tokens.get(deed[1]) != deed[2]:
                return ("free", deed[1])
            del self.tokens[deed[1]]
            return None
        fault = self.take(deed[0], deed[1])
        if fault is None and deed[0] == "hold":
            self.holds[deed[1]] += 2
        return fault


def do_deeds(state, deeds):
    for deed in deeds:
        fault = state.do(deed)
        if fault:
            return fault
    return None


def begin(function, part):
    """(state, fault) behind the entry's deeds."""
    state = State({r: 1 for r, word in enumerate(function.params) if word != "number"}, {})
    return state, do_deeds(state, part[0])


def do_row(function, part, state, at):
    """The fault of the deeds ahead of a row, or of the row itself."""
    before, token, _ = part[1][at]
    row = function.rows[at]
    fault = do_deeds(state, before)
    if fault:
        return fault
    for r in function.uses(at):
        fault = state.take("use", r)
        if fault:
            return fault
    if token is not None and row[0] == "match" and token in state.tokens:
        return ("token", token)
    if token is not None and row[0] == "make":
        if state.tokens.get(token) != len(row[3]):
            return ("token", token)
        del state.tokens[token]
    if row[0] == "give":
        for r in range(32):
            if state.holds.get(r, 0):
                return ("left", r)
        for token in range(16):
            if token in state.tokens:
                return ("token", token)
    return None


def do_next(function, part, state, at, which):
    """The fault of what is set on the way to a next, or of the edge's deeds."""
    _, token, edges = part[1][at]
    if token is not None and function.rows[at][0] == "match":
        state.tokens[token] = function.size(at, which)
    for r, is_tree in function.sets(at, which):
        if state.holds.get(r, 0):
            return ("bind", r)
        state.holds[r] = 1 if is_tree else 0
    return do_deeds(state, edges[which])


def fault_on(function, part, way):
    """(entries of the beginning, fault) of the first fault on a way, or None."""
    rows = function.rows_of(way)
    state, fault = begin(function, part)
    fault = fault or do_row(function, part, state, 0)
    if fault:
        return 0, fault
    for many, which in enumerate(way):
        fault = do_next(function, part, state, rows[many], which) or do_row(function, part, state, rows[many + 1])
        if fault:
            return many + 1, fault
    return None


class TooMany(Exception):
    pass


def judge(program, placing, most=30000):
    """What judge tells, by going on along all ways that do not fall, level by level; equal states only once.

    A way that comes to a row with a state that an earlier one brought there goes on and falls like that one.
    """
    tables = []
    for function, part in zip(functions_of(program), placing):
        state, fault = begin(function, part)
        came = {(0,) + state.told()}
        inner = state.copy()
        fault = fault or do_row(function, part, inner, 0)
        if fault:
            return ("wrong", function.name, (), fault)
        level = [((), 0, inner)]
        while level:
            following = []
            for way, at, state in level:
                for which, goto in enumerate(nexts_of(function.rows[at])):
                    behind = state.copy()
                    longer = way + (which,)
                    fault = do_next(function, part, behind, at, which)
                    here = (goto,) + behind.told()
                    fault = fault or do_row(function, part, behind, goto)
                    if fault:
                        return ("wrong", function.name, longer, fault)
                    if here not in came:
                        came.add(here)
                        following.append((longer, goto, behind))
                        if len(came) > most:
                            raise TooMany
            level = following
        tables.append(tuple(sorted(came)))
    return ("right", tuple(tables))


def judge_by_all_ways(program, placing, longest):
    """What judge tells if a way so short falls, else None, by going each way by itself from its begin."""
    for function, part in zip(functions_of(program), placing):
        for way, _ in function.ways(longest):
            fault = fault_on(function, part, way)
            if fault and fault[0] == len(way):
                return ("wrong", function.name, way, fault[1])
    return None


def shows(program, placing, tables):
    """Whether these are tables, right by form, that each row and its deeds keep."""
    for function, part, table in zip(functions_of(program), placing, tables):
        states = [State(holds, tokens) for _, holds, tokens in table]
        state, fault = begin(function, part)
        if fault or state.told() != states[0].told():
            return False
        for at, row in enumerate(function.rows):
            inner = states[at].copy()
            if do_row(function, part, inner, at):
                return False
            for which, goto in enumerate(nexts_of(row)):
                behind = inner.copy()
                if do_next(function, part, behind, at, which) or behind.told() != states[goto].told():
                    return False
    return True


def placed(program):
    return tuple(placed_part(function) for function in functions_of(program))


def placed_part(function):
    need = needed(function)
    entry = tuple(("drop", r) for r, word in enumerate(function.params) if word != "number" and r not in need[0])
    rows = []
    for at, row in enumerate(function.rows):
        on = [(need[goto], dict(function.sets(at, which))) for which, goto in enumerate(nexts_of(row))]
        holds, edges = [], []
        for r in range(32):
            times = function.uses(at).count(r)
            if times:
                times -= 1
                times += any(r in wanted and r not in setting for wanted, setting in on)
            holds += [("hold", r)] * times
        for wanted, setting in on:
            behind = {r for r, is_tree in setting.items() if is_tree}
            for other, over in on:
                behind |= {r for r in other if r not in over and setting.get(r, True)}
            edges.append(tuple(("drop", r) for r in sorted(behind - wanted)))
        rows.append((tuple(holds), None, tuple(edges)))
    return entry, tuple(rows)


def deeds_on(function, part, way):
    rows = function.rows_of(way)
    many = len(part[0])
    for at in rows:
        many += len(part[1][at][0])
    for at, which in zip(rows, way):
        many += len(part[1][at][2][which])
    return many


def dearer(program, placing, longest):
    """(name, way) of the first whole way, among those up to a length, with more deeds; None if there is none."""
    told = placed(program)
    for function, part, told_part in zip(functions_of(program), placing, told):
        for way, end in function.ways(longest):
            if function.rows[end][0] == "give" and deeds_on(function, part, way) > deeds_on(function, told_part, way):
                return function.name, way
    return None


def used_anew(function, part, way):
    return len([at for at in function.rows_of(way)[:-1] if function.rows[at][0] == "make" and part[1][at][1] is not None])


def is_plain(function):
    """Whether no row is come to by two ways, by all of the ways that are not longer than there are rows."""
    seen = set()
    for _, end in function.ways(len(function.rows)):
        if end in seen:
            return False
        seen.add(end)
    return True


class SeventeenTokens(Exception):
    pass


def reusing(program):
    found = []
    for function, part in zip(functions_of(program), placed(program)):
        found.append(reusing_part(function, part) if is_plain(function) else part)
    return tuple(found)


def room_uses(function):
    """{row of a make: row of the match whose room it uses}, each row's way gone by itself from the begin."""
    used = {}
    for way, end in list(function.ways(len(function.rows))):
        rooms = []
        for at, which in zip(function.rows_of(way), way + (None,)):
            row = function.rows[at]
            if row[0] == "make":
                fitting = [room for room in rooms if room[1] == len(row[3])]
                if fitting:
                    rooms.remove(fitting[0])
                    used[at] = fitting[0][0]
            if row[0] == "match" and which is not None:
                rooms.append((at, function.size(at, which)))
    return used


def reusing_part(function, part):
    used = room_uses(function)
    kept = set(used.values())
    ways = {end: way for way, end in function.ways(len(function.rows))}
    on = {at: [other for other in ways if ways[other][:len(ways[at])] == ways[at]] for at in ways}

    def is_used_on(match, at):
        return any(used.get(other) == match for other in on[at])

    numbers = {}
    rows = [list(row) for row in part[1]]
    for at in sorted(ways, key=lambda end: len(ways[end])):
        # The tokens there ahead of a row: of the kept matches that the way passed, whose rooms are used from here on.
        there = {}
        gone = list(zip(function.rows_of(ways[at]), ways[at]))
        for match, which in gone:
            if match in kept and is_used_on(match, at):
                there[match] = (numbers[match], function.size(match, which))
        if at in used:
            rows[at][1] = numbers[used[at]]
        if at in kept:
            free = [t for t in range(17) if t not in [number for number, _ in there.values()]]
            if free[0] == 16:
                raise SeventeenTokens
            numbers[at] = rows[at][1] = free[0]
        edges = []
        for which, goto in enumerate(nexts_of(function.rows[at])):
            behind = {match: room for match, room in there.items() if match != used.get(at)}
            if at in kept:
                behind[at] = (numbers[at], function.size(at, which))
            frees = sorted(room for match, room in behind.items() if not is_used_on(match, goto))
            edges.append(rows[at][2][which] + tuple(("free", t, size) for t, size in frees))
        rows[at][2] = tuple(edges)
    return part[0], tuple(tuple(row) for row in rows)


def in_place(program, placing):
    """The greatest lot, by trying all lots."""
    names = [function[0] for function in program[1]]
    best = set()
    for bits in range(2 ** len(names)):
        lot = {name for at, name in enumerate(names) if bits >> at & 1}
        if all(fits_lot(lot, function, part) for function, part in zip(program[1], placing) if function[0] in lot):
            best |= lot
    return tuple(sorted(best))


def fits_lot(lot, function, part):
    entry, parts = part
    deeds = list(entry)
    for row, (before, token, edges) in zip(function[3], parts):
        deeds += before
        for edge in edges:
            deeds += edge
        if row[0] == "make" and token is None or row[0] == "call" and row[2] not in lot:
            return False
    return "hold" not in [deed[0] for deed in deeds]
