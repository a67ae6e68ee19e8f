"""What [5] to [7] say, written as plainly as can be, to compare the package with on small programs.

It takes programs that are right by form alone, and is slow.
"""


class OutOfRows(Exception):
    pass


def nexts_of(row):
    if row[0] == "give":
        return []
    if row[0] == "less":
        return list(row[3:])
    if row[0] == "match":
        return [branch[1] for branch in row[2]]
    return [row[-1]]


class Words:
    """What the names of a program stand for."""

    def __init__(self, program):
        self.kinds = dict(program[0])
        self.functions = {function[0]: function for function in program[1]}

    def maker(self, name):
        """(kind, fields) of a maker, or None."""
        for kind, makers in self.kinds.items():
            for maker, fields in makers:
                if maker == name:
                    return kind, fields
        return None


def check(program):
    words = Words(program)
    names = [function[0] for function in program[1]]
    for at, name in enumerate(names):
        if name in names[:at]:
            return ("double", name, 0)
    for name, params, result, _ in program[1]:
        for word in params + (result,):
            if word not in words.kinds and word != "number":
                return ("kind", name, 0)
    for function in program[1]:
        for phase in (wrong_rows, wrong_ways, wrong_registers):
            found = phase(words, function)
            if found:
                return (found[0], function[0], found[1])
    return None


def wrong_rows(words, function):
    rows = function[3]
    for at, row in enumerate(rows):
        for goto in nexts_of(row):
            if goto >= len(rows):
                return "next", at
        if row[0] == "make":
            if words.maker(row[2]) is None:
                return "name", at
            if len(words.maker(row[2])[1]) != len(row[3]):
                return "many", at
        if row[0] == "call":
            if row[2] not in words.functions:
                return "name", at
            if len(words.functions[row[2]][1]) != len(row[3]):
                return "many", at
        if row[0] == "match":
            for setting, _ in row[2]:
                if sorted(set(setting)) != sorted(setting):
                    return "many", at
    return None


def wrong_ways(words, function):
    """By steps of one next at a time, as many as there are rows."""
    rows = function[3]
    come = {0}
    for _ in rows:
        come |= {goto for at in come for goto in nexts_of(rows[at])}
    for at in range(len(rows)):
        if at not in come:
            return "idle", at
    ending = {at for at, row in enumerate(rows) if row[0] == "give"}
    for _ in rows:
        ending |= {at for at, row in enumerate(rows) if ending & set(nexts_of(row))}
    for at in range(len(rows)):
        if at not in ending:
            return "endless", at
    return None


def sets_on(words, row, which, had):
    """{register: word or None} of what a row sets on its next of that index."""
    if row[0] in ("number", "add", "sub"):
        return {row[1]: "number"}
    if row[0] == "make":
        return {row[1]: words.maker(row[2])[0]}
    if row[0] == "call":
        return {row[1]: words.functions[row[2]][2]}
    if row[0] == "match":
        setting = row[2][which][0]
        makers = words.kinds.get(had.get(row[1]), ())
        fields = makers[which][1] if which < len(makers) else ()
        return {r: fields[at] if at < len(fields) else None for at, r in enumerate(setting)}
    return {}


def behind(words, row, which, had):
    has = dict(had)
    has.update(sets_on(words, row, which, had))
    return {r: word for r, word in has.items() if word is not None}


def assignment(words, function):
    """The greatest assignment: all that one way brings to each row, less what does not hold, as long as there is any."""
    _, params, _, rows = function
    begin = dict(enumerate(params))
    has = {0: dict(begin)}
    coming = [0]
    for at in coming:
        for which, goto in enumerate(nexts_of(rows[at])):
            if goto not in has:
                has[goto] = behind(words, rows[at], which, has[at])
                coming.append(goto)
    leading = [(at, which, goto) for at, row in enumerate(rows) for which, goto in enumerate(nexts_of(row))]
    changed = True
    while changed:
        changed = False
        for at, which, goto in leading:
            brought = behind(words, rows[at], which, has[at])
            for r in list(has[goto]):
                if brought.get(r) != has[goto][r]:
                    del has[goto][r]
                    changed = True
    return [has[at] for at in range(len(rows))]


def reading(words, function, row):
    """(register, wanted word) for what a row reads; None is any kind."""
    if row[0] in ("add", "sub"):
        return [(row[2], "number"), (row[3], "number")]
    if row[0] == "less":
        return [(row[1], "number"), (row[2], "number")]
    if row[0] == "make":
        return list(zip(row[3], words.maker(row[2])[1]))
    if row[0] == "call":
        return list(zip(row[3], words.functions[row[2]][1]))
    if row[0] == "match":
        return [(row[1], None)]
    if row[0] == "give":
        return [(row[1], function[2])]
    return []


def wrong_registers(words, function):
    for at, (row, has) in enumerate(zip(function[3], assignment(words, function))):
        for r, wanted in reading(words, function, row):
            if r not in has:
                return "unset", at
            if has[r] != wanted and not (wanted is None and has[r] != "number"):
                return "unfit", at
        if row[0] == "match":
            makers = words.kinds[has[row[1]]]
            if len(makers) != len(row[2]):
                return "many", at
            for (_, fields), (setting, _) in zip(makers, row[2]):
                if len(fields) != len(setting):
                    return "many", at
            for setting, _ in row[2]:
                for r in setting:
                    if has.get(r) in words.kinds:
                        return "over", at
    return None


def registers(program):
    words = Words(program)
    return tuple(tuple(tuple(sorted(has.items())) for has in assignment(words, function)) for function in program[1])


def same_on_all_ways(program):
    """registers, of a right program, by all that any way brings to a row."""
    words = Words(program)
    found = []
    for _, params, _, rows in program[1]:
        brought = {(0, r): {params[r] if r < len(params) else None} for r in range(32)}
        changed = True
        while changed:
            changed = False
            for at, row in enumerate(rows):
                if (at, 0) not in brought:
                    continue
                for which, goto in enumerate(nexts_of(row)):
                    for r in range(32):
                        # The matched register has one kind on all ways, as nothing is wrong.
                        had = {row[1]: min(brought[at, row[1]])} if row[0] == "match" else {}
                        setting = sets_on(words, row, which, had)
                        coming = {setting[r]} if r in setting else brought[at, r]
                        there = brought.setdefault((goto, r), set())
                        if not coming <= there:
                            there |= coming
                            changed = True
        found.append(tuple(
            tuple((r, min(brought[at, r])) for r in range(32) if len(brought[at, r]) == 1 and None not in brought[at, r])
            for at in range(len(rows))))
    return tuple(found)


def tree_read(words, kind, entries):
    """The nested tree of sayings that are an iterator."""
    if kind == "number":
        return next(entries)
    maker = next(entries)
    return (maker,) + tuple(tree_read(words, field, entries) for field in words.maker(maker)[1])


def said(tree):
    if type(tree) is int:
        return (tree,)
    return tree[:1] + tuple(entry for part in tree[1:] for entry in said(part))


class Rest:
    """How many rows may still be done."""

    def __init__(self, most):
        self.most = most

    def one(self):
        if self.most == 0:
            raise OutOfRows
        self.most -= 1


def bounded(number):
    while number > 10 ** 12:
        number -= 2 * 10 ** 12 + 1
    while number < -10 ** 12:
        number += 2 * 10 ** 12 + 1
    return number


def given_by(words, name, values, rest):
    rows = words.functions[name][3]
    has = dict(enumerate(values))
    at = 0
    while True:
        row = rows[at]
        rest.one()
        if row[0] == "give":
            return has[row[1]]
        which = 0
        if row[0] == "number":
            has[row[1]] = row[2]
        elif row[0] == "add":
            has[row[1]] = bounded(has[row[2]] + has[row[3]])
        elif row[0] == "sub":
            has[row[1]] = bounded(has[row[2]] - has[row[3]])
        elif row[0] == "less":
            which = 0 if has[row[1]] < has[row[2]] else 1
        elif row[0] == "make":
            has[row[1]] = (row[2],) + tuple(has[r] for r in row[3])
        elif row[0] == "call":
            has[row[1]] = given_by(words, row[2], [has[r] for r in row[3]], rest)
        else:
            tree = has[row[1]]
            makers = [maker for maker, _ in words.kinds[words.maker(tree[0])[0]]]
            which = makers.index(tree[0])
            has.update(zip(row[2][which][0], tree[1:]))
        at = nexts_of(row)[which]


def run(program, name, args, most):
    words = Words(program)
    function = words.functions[name]
    values = [tree_read(words, word, iter(arg)) if word != "number" else arg for word, arg in zip(function[1], args)]
    try:
        result = given_by(words, name, values, Rest(most))
    except OutOfRows:
        return ("on",)
    if function[2] == "number":
        return ("ended", result)
    entries = said(result)
    return ("ended", entries if len(entries) <= 4000 else None)
