"""What is wrong in a program first, and what its registers have at each row."""

from justfreed.errors import BadName, NotChecked
from justfreed.programs import need_program
from justfreed.tables import Tables, arg_words, is_named, nexts, reads, word_given


def check(program):
    """None, or what is wrong first, as (word, function's name, row)."""
    need_program(program)
    tables = Tables(program)
    _, functions = program
    wrong = wrong_heads(tables, functions)
    for function in functions:
        if wrong is None:
            wrong = wrong_function(tables, function)
    return wrong


def checked(program):
    """None, if nothing is wrong in the program; else it raises NotChecked."""
    what = check(program)
    if what is not None:
        raise NotChecked(what)


def is_named_in(program, name):
    """Whether any object is the name of a function of the program."""
    _, functions = program
    return type(name) is str and name in [other for other, _, _, _ in functions]


def index_named(program, name):
    """The index of the function of a checked program that has the name; raises BadName if none has it."""
    if not is_named_in(program, name):
        raise BadName("this is no name of a function")
    _, functions = program
    return [other for other, _, _, _ in functions].index(name)


def registers(program):
    """For each function, for each row, the ascending pairs of a register and what it has there."""
    checked(program)
    tables = Tables(program)
    _, functions = program
    return tuple([words_of_rows(tables, function) for function in functions])


def words_of_rows(tables, function):
    """For each row of a function the ascending pairs of a register and what it has there."""
    words = words_at(tables, function)
    return tuple([tuple(sorted(words[row].items())) for row in range(len(words))])


def wrong_heads(tables, functions):
    """What is wrong first with the names, params and results of the functions, or None."""
    names = [name for name, _, _, _ in functions]
    for index, name in enumerate(names):
        if name in names[:index]:
            return ("double", name, 0)
    for name, params, result, _ in functions:
        for word in (*params, result):
            if word != "number" and word not in tables.kinds:
                return ("kind", name, 0)
    return None


def wrong_function(tables, function):
    """What is wrong first with the rows of a function, or None."""
    name, _, _, rows = function
    # Each of the three needs all ahead of it: ways go by nexts that are rows, words by ways to all rows.
    found = wrong_alone(tables, rows)
    if found is None:
        found = wrong_ways(rows)
    if found is None:
        found = wrong_words(tables, function)
    if found is None:
        return None
    word, row = found
    return (word, name, row)


def wrong_alone(tables, rows):
    """The first (word, row) of the rows that are wrong by themselves, whatever registers have, or None."""
    for index, row in enumerate(rows):
        if any(goto >= len(rows) for goto in nexts(row)):
            return ("next", index)
        if not is_named(tables, row):
            return ("name", index)
        if has_wrong_many(tables, row):
            return ("many", index)
    return None


def has_wrong_many(tables, row):
    """Whether a make or a call has not as many args as wanted, or two registers of a branch are equal."""
    if row[0] in ("make", "call"):
        return len(row[3]) != len(arg_words(tables, row))
    return row[0] == "match" and any([len(set(setting)) < len(setting) for setting, _ in row[2]])


def wrong_ways(rows):
    """The first (word, row) of the rows that are not come to, else of those that come to no give, or None."""
    ahead = [nexts(row) for row in rows]
    behind = [[] for _ in rows]
    for index, gotos in enumerate(ahead):
        for goto in gotos:
            behind[goto].append(index)
    come_to = reached(ahead, [0])
    ending = reached(behind, [index for index, row in enumerate(rows) if row[0] == "give"])
    for index in range(len(rows)):
        if index not in come_to:
            return ("idle", index)
    for index in range(len(rows)):
        if index not in ending:
            return ("endless", index)
    return None


def reached(leads, begins):
    """The rows that are come to from the begins, as a dict of True; leads has the rows that each leads to."""
    found = {row: True for row in begins}
    waiting = list(begins)
    while waiting:
        row = waiting.pop()
        for goto in leads[row]:
            if goto not in found:
                found[goto] = True
                waiting.append(goto)
    return found


def words_at(tables, function):
    """For each row that is come to a dict of what the registers have that have something there."""
    _, params, _, rows = function
    words = {0: {r: word for r, word in enumerate(params)}}
    waiting = [0]
    # A row's words only ever get fewer, from all that its first way brings, so the greatest assignment is left.
    while waiting:
        index = waiting.pop()
        leading = words_behind(tables, rows[index], words[index])
        for goto, has in leading:
            met = agreed(words[goto], has) if goto in words else has
            if goto not in words or len(met) < len(words[goto]):
                words[goto] = met
                waiting.append(goto)
    return words


def agreed(one, other):
    """What registers have by both of two dicts."""
    return {r: word for r, word in one.items() if other.get(r) == word}


def words_behind(tables, row, has):
    """The pairs of a next of the row and what registers have on the way there."""
    if row[0] == "match":
        fields = branch_fields(tables, row, has)
        return [(goto, branch_words(fields[at], setting, has)) for at, (setting, goto) in enumerate(row[2])]
    if row[0] in ("less", "give"):
        return [(goto, has) for goto in nexts(row)]
    return [(row[-1], {**has, row[1]: word_given(tables, row)})]


def branch_fields(tables, row, has):
    """For each branch of a match its maker's fields, none where there is no such maker."""
    makers = tables.kinds.get(has.get(row[1]), ())
    return [makers[at][1] if at < len(makers) else () for at in range(len(row[2]))]


def branch_words(fields, setting, has):
    """What registers have on a branch that sets those of setting to what stands at the fields."""
    found = {r: word for r, word in has.items() if r not in setting}
    # Registers beyond the fields pair with none of them, and so have nothing.
    for r, word in zip(setting, fields):
        found[r] = word
    return found


def wrong_words(tables, function):
    """The first (word, row) of the rows that read what registers have not, or that set trees, or None."""
    _, _, result, rows = function
    words = words_at(tables, function)
    for index, row in enumerate(rows):
        word = wrong_reads(reads(tables, row, result), words[index])
        if row[0] == "match":
            word = wrong_match(tables, row, words[index])
        if word is not None:
            return (word, index)
    return None


def wrong_reads(reading, has):
    """The word of the first read that is wrong, or None."""
    for r, word in reading:
        if r not in has:
            return "unset"
        if has[r] != word:
            return "unfit"
    return None


def wrong_match(tables, row, has):
    """The word of what is wrong first with a match, or None."""
    _, a, branches = row
    if a not in has:
        return "unset"
    if has[a] == "number":
        return "unfit"
    wanted = [len(fields) for _, fields in tables.kinds[has[a]]]
    if [len(setting) for setting, _ in branches] != wanted:
        return "many"
    if any([has.get(r, "number") != "number" for setting, _ in branches for r in setting]):
        return "over"
    return None
