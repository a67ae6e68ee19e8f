"""Texts of programs and placings."""

from justfreed.errors import BadText
from justfreed.judging import TOKENS, fits_program, need_placing
from justfreed.programs import (
    DIGITS, GREATEST_NUMBER, NAME_SIGNS, REGISTERS, is_field_word, is_high_name, is_low_name, is_program, need_program)
from justfreed.tables import nexts

GREATEST_ROW = 59
GREATEST_SIZE = 4


def write_text(program, placing):
    """The text of a program and a placing, with one blank between any two words."""
    need_program(program)
    need_placing(program, placing)
    kinds, functions = program
    words = []
    for kind in kinds:
        words.extend(kind_words(kind))
    for function, part in zip(functions, placing):
        words.extend(function_words(function, part))
    return " ".join(words)


def joined(parts):
    """The words of all parts, with a comma between any two of these."""
    words = []
    for part in parts:
        words.extend(part + [","])
    return words[:-1]


def list_words(entries):
    """The words of a list in round brackets."""
    return ["("] + joined([[entry] for entry in entries]) + [")"]


def registers_words(setting):
    """The words of a list of registers."""
    return list_words([f"r{r}" for r in setting])


def kind_words(kind):
    """The words of a kind."""
    name, makers = kind
    words = ["kind", name, "{"]
    for maker, fields in makers:
        words.extend([maker] + list_words(fields))
    return words + ["}"]


def function_words(function, part):
    """The words of a function and of what the placing has for it."""
    name, params, result, rows = function
    entry, parts = part
    words = ["fun", name] + list_words(params) + [result, "{"]
    if entry:
        words.extend(["entry"] + deeds_words(entry) + [";"])
    for row, (before, token, edges) in zip(rows, parts):
        words.extend(deeds_words(before) + head_words(row, token) + joined(ends_words(row, edges)) + [";"])
    return words + ["}"]


def deeds_words(deeds):
    """The words of deeds, none if there are none."""
    words = []
    for deed in deeds:
        if deed[0] == "free":
            words.extend(["free", f"t{deed[1]}", ":", str(deed[2])])
        else:
            words.extend([deed[0], f"r{deed[1]}"])
    return ["{"] + words + ["}"] if words else []


def head_words(row, token):
    """The words of a row ahead of its nexts, or of its branches."""
    word = row[0]
    if word == "number":
        return [f"r{row[1]}", "=", str(row[2])]
    if word in ("add", "sub"):
        return [f"r{row[1]}", "=", f"r{row[2]}", "+" if word == "add" else "-", f"r{row[3]}"]
    if word == "less":
        return [f"r{row[1]}", "<", f"r{row[2]}"]
    if word in ("make", "call"):
        return [f"r{row[1]}", "=", row[2]] + registers_words(row[3]) + token_words("in", token)
    if word == "match":
        return ["case", f"r{row[1]}"] + token_words("into", token)
    return ["give", f"r{row[1]}"]


def token_words(word, token):
    """The words of a row's token, none if it has none."""
    return [] if token is None else [word, f"t{token}"]


def ends_words(row, edges):
    """For each next of a row its words, with the edge's deeds, behind those of a match's branch."""
    ends = [["->"] + deeds_words(deeds) + [str(goto)] for goto, deeds in zip(nexts(row), edges)]
    if row[0] == "match":
        return [registers_words(setting) + end for (setting, _), end in zip(row[2], ends)]
    return ends


class Reader:
    """The words of a text, each with its place, and the index of the one that comes next.

    Behind the last one stands an empty word, which no other one is like, with the text's length as its place.
    """

    def __init__(self, text):
        self.words = words_in(text)
        self.at = 0


def words_in(text):
    """The pairs of a word of the text and its place, with the empty one at the end."""
    found = []
    ahead = ""
    at = 0
    while at < len(text):
        end = word_end(text, at, ahead)
        if text[at] not in " \n":
            ahead = text[at:end]
            found.append((ahead, at))
        at = end
    found.append(("", len(text)))
    return found


def word_end(text, at, ahead):
    """Where the word that begins at a place ends, if the word ahead of it is this one."""
    if text[at] == "-" and text[at + 1:at + 2] == ">":
        return at + 2
    if text[at] == "-" and ahead == "=":
        end = run_end(text, at + 1)
        return end if are_figures(text[at + 1:end]) else at + 1
    return max(run_end(text, at), at + 1)


def run_end(text, at):
    """Where the letters and digits that begin at a place end."""
    while at < len(text) and text[at] in NAME_SIGNS:
        at += 1
    return at


def are_figures(word):
    """Whether a word is of digits alone, of one at least."""
    return word != "" and all([sign in DIGITS for sign in word])


def figures_told(word, most):
    """The integer that figures tell, or None for what are none, or tell more than so much."""
    plain = word.lstrip("0")
    # Python does not read figures that are very many.
    if not are_figures(word) or len(plain) > len(str(most)):
        return None
    told = int("0" + plain)
    return told if told <= most else None


def number_told(word):
    """The number that a word tells, or None."""
    if word.startswith("-"):
        told = figures_told(word[1:], GREATEST_NUMBER)
        return None if told is None else -told
    return figures_told(word, GREATEST_NUMBER)


def lettered_told(word, letter, many):
    """The integer below so many that a word tells behind a letter, without noughts ahead, or None."""
    told = figures_told(word[1:], many - 1)
    return told if told is not None and word == f"{letter}{told}" else None


def register_told(word):
    """The register that a word tells, or None."""
    return lettered_told(word, "r", REGISTERS)


def token_told(word):
    """The token that a word tells, or None."""
    return lettered_told(word, "t", TOKENS)


def field_told(word):
    """A word that may stand for a field, a param or a result, or None."""
    return word if is_field_word(word) else None


def coming(reader):
    """The word that comes next."""
    word, _ = reader.words[reader.at]
    return word


def passed(reader, fits):
    """The next word, behind which it goes on, if it can stand there; else raises BadText."""
    word, place = reader.words[reader.at]
    if not fits:
        raise BadText(place)
    reader.at += 1
    return word


def take(reader, word):
    """Goes on behind a word that must come next."""
    passed(reader, coming(reader) == word)


def comes(reader, word):
    """Whether a word comes next; goes on behind it if so."""
    if coming(reader) != word:
        return False
    reader.at += 1
    return True


def read(reader, telling):
    """What the next word tells, by a function that returns None for those that cannot stand there."""
    told = telling(coming(reader))
    passed(reader, told is not None)
    return told


def read_figures(reader, most):
    """The integer of at most so much that the next word tells."""
    told = figures_told(coming(reader), most)
    passed(reader, told is not None)
    return told


def read_text(text):
    """The program and the placing of a text."""
    if type(text) is not str:
        raise BadText(0)
    reader = Reader(text)
    kinds = [read_kind(reader)]
    while coming(reader) == "kind":
        kinds.append(read_kind(reader))
    functions = [read_function(reader)]
    while coming(reader) != "":
        functions.append(read_function(reader))
    program = (tuple(kinds), tuple([function for function, _ in functions]))
    placing = tuple([part for _, part in functions])
    if not is_program(program) or not fits_program(program, placing):
        raise BadText(len(text))
    return program, placing


def read_list(reader, telling):
    """The tuple of what a list in round brackets tells."""
    take(reader, "(")
    if comes(reader, ")"):
        return ()
    found = [read(reader, telling)]
    while comes(reader, ","):
        found.append(read(reader, telling))
    take(reader, ")")
    return tuple(found)


def read_kind(reader):
    """A kind."""
    take(reader, "kind")
    name = passed(reader, is_high_name(coming(reader)))
    take(reader, "{")
    makers = [read_maker(reader)]
    while not comes(reader, "}"):
        makers.append(read_maker(reader))
    return (name, tuple(makers))


def read_maker(reader):
    """A maker."""
    name = passed(reader, is_high_name(coming(reader)))
    return (name, read_list(reader, field_told))


def read_function(reader):
    """A function, and what the placing has for it."""
    take(reader, "fun")
    name = passed(reader, is_low_name(coming(reader)))
    params = read_list(reader, field_told)
    result = read(reader, field_told)
    take(reader, "{")
    entry = ()
    if comes(reader, "entry"):
        entry = read_deeds(reader)
        take(reader, ";")
    found = [read_row(reader)]
    while not comes(reader, "}"):
        found.append(read_row(reader))
    rows = tuple([row for row, _ in found])
    return (name, params, result, rows), (entry, tuple([done for _, done in found]))


def read_deeds(reader):
    """Deeds in their brackets."""
    take(reader, "{")
    deeds = []
    while not comes(reader, "}"):
        deeds.append(read_deed(reader))
    return tuple(deeds)


def read_deed(reader):
    """A deed."""
    word = passed(reader, coming(reader) in ("hold", "drop", "free"))
    if word != "free":
        return (word, read(reader, register_told))
    token = read(reader, token_told)
    take(reader, ":")
    return (word, token, read_figures(reader, GREATEST_SIZE))


def deeds_if_any(reader):
    """Deeds, if their bracket comes next, else none."""
    return read_deeds(reader) if coming(reader) == "{" else ()


def token_if_any(reader, word):
    """A token, if the word ahead of it comes next, else None."""
    return read(reader, token_told) if comes(reader, word) else None


def read_row(reader):
    """A row, and what the placing has for it."""
    before = deeds_if_any(reader)
    if comes(reader, "case"):
        row, token, edges = read_match(reader)
    elif comes(reader, "give"):
        row, token, edges = ("give", read(reader, register_told)), None, ()
    else:
        row, token, edges = read_other(reader, read(reader, register_told))
    take(reader, ";")
    return row, (before, token, edges)


def read_next(reader):
    """A next, and its edge's deeds."""
    take(reader, "->")
    deeds = deeds_if_any(reader)
    return read_figures(reader, GREATEST_ROW), deeds


def read_match(reader):
    """A match behind its first word, its token, and its edges' deeds."""
    a = read(reader, register_told)
    token = token_if_any(reader, "into")
    found = [read_branch(reader)]
    while comes(reader, ","):
        found.append(read_branch(reader))
    branches = tuple([branch for branch, _ in found])
    return ("match", a, branches), token, tuple([deeds for _, deeds in found])


def read_branch(reader):
    """A branch, and its edge's deeds."""
    setting = read_list(reader, register_told)
    goto, deeds = read_next(reader)
    return (setting, goto), deeds


def read_other(reader, r):
    """A row that begins with a register, its token, and its edges' deeds."""
    if comes(reader, "<"):
        other = read(reader, register_told)
        below, below_deeds = read_next(reader)
        take(reader, ",")
        above, above_deeds = read_next(reader)
        return ("less", r, other, below, above), None, (below_deeds, above_deeds)
    take(reader, "=")
    head, token = read_setting(reader, r)
    goto, deeds = read_next(reader)
    return head + (goto,), token, (deeds,)


def read_setting(reader, r):
    """A row that sets the register, without its next, and its token."""
    word = coming(reader)
    if is_high_name(word):
        take(reader, word)
        args = read_list(reader, register_told)
        return ("make", r, word, args), token_if_any(reader, "in")
    if is_low_name(word):
        take(reader, word)
        return ("call", r, word, read_list(reader, register_told)), None
    a = register_told(word)
    if a is None:
        return ("number", r, read(reader, number_told)), None
    take(reader, word)
    sign = passed(reader, coming(reader) in ("+", "-"))
    return ("add" if sign == "+" else "sub", r, a, read(reader, register_told)), None
