"""What has the form of kinds, of a tree's sayings, and of a program."""

from justfreed.errors import BadKind, BadKinds, BadProgram
from justfreed.tables import makers_by_name

SMALL_LETTERS = "abcdefghijklmnopqrstuvwxyz"
CAPITAL_LETTERS = "ABCDEFGHIJKLMNOPQRSTUVWXYZ"
DIGITS = "0123456789"
NAME_SIGNS = "abcdefghijklmnopqrstuvwxyzABCDEFGHIJKLMNOPQRSTUVWXYZ0123456789"
WORDS = ("case", "drop", "entry", "free", "fun", "give", "hold", "in", "into", "kind", "number")
GREATEST_NUMBER = 1000000000000
REGISTERS = 32
MOST_ENTRIES = 400


def is_integer(thing, low, high):
    """Whether any object is an integer from low to high."""
    # Truths are ints for isinstance, so the class itself is asked for.
    return type(thing) is int and low <= thing <= high


def is_number(thing):
    """Whether any object is a number."""
    return is_integer(thing, -GREATEST_NUMBER, GREATEST_NUMBER)


def is_register(thing):
    """Whether any object is a register."""
    return is_integer(thing, 0, REGISTERS - 1)


def is_next(thing):
    """Whether any object is a next."""
    return is_integer(thing, 0, 59)


def reads_as_cell(name):
    """Whether texts would read the name as a register or a token: r or t, with digits only behind."""
    return name[0] in "rt" and all(sign in DIGITS for sign in name[1:])


def is_name(thing, first_signs):
    """Whether any object is a name that begins with one of the signs."""
    # Any object may be unlike anything in ways of its own, so its class is asked for ahead of all else.
    if type(thing) is not str or not 1 <= len(thing) <= 10:
        return False
    if thing[0] not in first_signs or any(sign not in NAME_SIGNS for sign in thing):
        return False
    return thing not in WORDS and not reads_as_cell(thing)


def is_low_name(thing):
    """Whether any object is a low name."""
    return is_name(thing, SMALL_LETTERS)


def is_high_name(thing):
    """Whether any object is a high name."""
    return is_name(thing, CAPITAL_LETTERS)


def is_field_word(thing):
    """Whether any object may stand for a field, a param or a result, by its form."""
    return is_high_name(thing) or (type(thing) is str and thing == "number")


def is_tuple_of(thing, least, most, fits):
    """Whether any object is a tuple of least to most entries all of which fit."""
    return type(thing) is tuple and least <= len(thing) <= most and all(fits(part) for part in thing)


def is_pair(thing, fits_first, fits_second):
    """Whether any object is a pair whose entries fit."""
    return type(thing) is tuple and len(thing) == 2 and fits_first(thing[0]) and fits_second(thing[1])


def are_fields(thing):
    """Whether any object has the form of a maker's fields."""
    return is_tuple_of(thing, 0, 4, is_field_word)


def is_maker(thing):
    """Whether any object has the form of a maker."""
    return is_pair(thing, is_high_name, are_fields)


def are_makers(thing):
    """Whether any object has the form of a kind's makers."""
    return is_tuple_of(thing, 1, 6, is_maker)


def is_kind(thing):
    """Whether any object has the form of a kind, whatever other kinds there are."""
    return is_pair(thing, is_high_name, are_makers)


def is_kinds(thing):
    """Whether any object is kinds."""
    if not is_tuple_of(thing, 1, 6, is_kind):
        return False
    names = [name for name, _ in thing]
    makers = [maker for _, made in thing for maker, _ in made]
    words = [word for _, made in thing for _, fields in made for word in fields]
    if len(set(names)) < len(names) or len(set(makers)) < len(makers):
        return False
    return all(word == "number" or word in names for word in words)


def fields_behind(makers, word, entry):
    """The fields whose sayings follow an entry that stands for the word; None if it can't stand there."""
    if word == "number":
        return () if is_number(entry) else None
    if type(entry) is not str or entry not in makers:
        return None
    kind, _, fields = makers[entry]
    return fields if kind == word else None


def are_sayings(makers, kind, thing):
    """Whether any object is the sayings of a tree of the kind, makers being those of makers_by_name."""
    if type(thing) is not tuple or len(thing) > MOST_ENTRIES:
        return False
    pending = [kind]
    for entry in thing:
        if not pending:
            return False
        fields = fields_behind(makers, pending.pop(), entry)
        if fields is None:
            return False
        pending.extend(fields[::-1])
    return not pending


def is_tree(kinds, kind, thing):
    """Whether any object is the sayings of a tree of the kind."""
    if not is_kinds(kinds):
        raise BadKinds("these are no kinds")
    if type(kind) is not str or kind not in [name for name, _ in kinds]:
        raise BadKind("this is no name of a kind")
    return are_sayings(makers_by_name(kinds), kind, thing)


def are_make_args(thing):
    """Whether any object has the form of the args of a make, or of a branch's registers."""
    return is_tuple_of(thing, 0, 4, is_register)


def are_call_args(thing):
    """Whether any object has the form of the args of a call."""
    return is_tuple_of(thing, 0, 8, is_register)


def is_branch(thing):
    """Whether any object has the form of a branch."""
    return is_pair(thing, are_make_args, is_next)


def are_branches(thing):
    """Whether any object has the form of a match's branches."""
    return is_tuple_of(thing, 1, 6, is_branch)


ROW_FORMS = {
    "number": (is_register, is_number, is_next),
    "add": (is_register, is_register, is_register, is_next),
    "sub": (is_register, is_register, is_register, is_next),
    "less": (is_register, is_register, is_next, is_next),
    "make": (is_register, is_high_name, are_make_args, is_next),
    "match": (is_register, are_branches),
    "call": (is_register, is_low_name, are_call_args, is_next),
    "give": (is_register,),
}


def begins_with_word(thing):
    """Whether any object is a tuple that begins with a str."""
    return type(thing) is tuple and len(thing) > 0 and type(thing[0]) is str


def has_parts(thing, form):
    """Whether behind a tuple's word there stand just as many parts as in the form, each of which fits."""
    if len(thing) != len(form) + 1:
        return False
    for fits, part in zip(form, thing[1:]):
        if not fits(part):
            return False
    return True


def is_row(thing):
    """Whether any object has the form of a row."""
    return begins_with_word(thing) and thing[0] in ROW_FORMS and has_parts(thing, ROW_FORMS[thing[0]])


def is_function(thing):
    """Whether any object has the form of a function."""
    if type(thing) is not tuple or len(thing) != 4:
        return False
    name, params, result, rows = thing
    if not is_low_name(name) or not is_tuple_of(params, 0, 8, is_field_word):
        return False
    return is_field_word(result) and is_tuple_of(rows, 1, 60, is_row)


def are_functions(thing):
    """Whether any object has the form of a program's functions."""
    return is_tuple_of(thing, 1, 12, is_function)


def is_program(thing):
    """Whether any object has the form of a program."""
    return is_pair(thing, is_kinds, are_functions)


def need_program(program):
    """Raises BadProgram for what has not the form of a program."""
    if not is_program(program):
        raise BadProgram("this has not the form of a program")
