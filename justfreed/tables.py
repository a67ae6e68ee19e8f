"""What the names of a program stand for, what its rows lead to, and what they want and give.

All that stands here takes what is known to have the form of kinds, of rows or of programs.
"""


def makers_by_name(kinds):
    """For each maker's name its kind's name, its index among the kind's makers, and its fields."""
    makers = {}
    for kind, made in kinds:
        for index, (maker, fields) in enumerate(made):
            makers[maker] = (kind, index, fields)
    return makers


class Tables:
    """The kinds, makers and functions of a program by their names."""

    def __init__(self, program):
        kinds, functions = program
        self.kinds = {kind: makers for kind, makers in kinds}
        self.makers = makers_by_name(kinds)
        self.functions = {name: (params, result, rows) for name, params, result, rows in functions}


def nexts(row):
    """The nexts of a row, in the order in which they stand."""
    if row[0] == "give":
        return []
    if row[0] == "less":
        return [row[3], row[4]]
    if row[0] == "match":
        return [goto for _, goto in row[2]]
    return [row[-1]]


def is_named(tables, row):
    """Whether a row names nothing, or what is there: a maker at a make, a function at a call."""
    if row[0] == "make":
        return row[2] in tables.makers
    return row[0] != "call" or row[2] in tables.functions


def arg_words(tables, row):
    """What the args of a make or a call are to have, each a kind's name or "number"."""
    if row[0] == "make":
        _, _, fields = tables.makers[row[2]]
        return fields
    params, _, _ = tables.functions[row[2]]
    return params


def reads(tables, row, result):
    """The registers that a row reads, in their order, with what each is to have.

    A match is left out: what it takes apart is a tree of any kind.
    """
    if row[0] in ("add", "sub"):
        return [(row[2], "number"), (row[3], "number")]
    if row[0] == "less":
        return [(row[1], "number"), (row[2], "number")]
    if row[0] in ("make", "call"):
        return list(zip(row[3], arg_words(tables, row)))
    if row[0] == "give":
        return [(row[1], result)]
    return []


def uses(tables, row, result):
    """The registers that a row uses, in the order of its operands, as often as they stand there."""
    if row[0] == "match":
        return [row[1]]
    return [r for r, word in reads(tables, row, result) if word != "number"]


def word_given(tables, row):
    """What the register r of a number, add, sub, make or call gets."""
    if row[0] == "make":
        kind, _, _ = tables.makers[row[2]]
        return kind
    if row[0] == "call":
        _, result, _ = tables.functions[row[2]]
        return result
    return "number"
