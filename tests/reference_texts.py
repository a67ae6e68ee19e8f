"""What [25] says of words and of which of them can stand where, written as plainly as can be.

The words that can stand are told by patterns; what is left of a pattern behind a word is a list of patterns again.
"""

import re

LETTERED = {"register": ("r", 32), "token": ("t", 16)}
FIGURES = {"row": 59, "size": 4}
BARRED = set("case drop entry free fun give hold in into kind number".split())


def words(text):
    """(word, place) of each word."""
    found = []
    at = 0
    while at < len(text):
        if text[at] in " \n":
            at += 1
            continue
        word = re.compile(r"->|[A-Za-z0-9]+|.", re.DOTALL).match(text, at).group()
        run = re.compile(r"[A-Za-z0-9]+").match(text, at + 1)
        if word == "-" and found and found[-1][0] == "=" and run and re.fullmatch("[0-9]+", run.group()):
            word += run.group()
        found.append((word, at))
        at += len(word)
    return found


def is_name(word):
    return (re.fullmatch("[A-Za-z][A-Za-z0-9]{0,9}", word) and word not in BARRED
            and not re.fullmatch("[rt][0-9]*", word))


def figures(word, most):
    """Whether these are figures of at most so much, with any noughts ahead."""
    return bool(re.fullmatch("[0-9]+", word)) and len(word.lstrip("0")) < 20 and int(word.lstrip("0") or "0") <= most


def fits(sort, word):
    if sort == "LOW":
        return is_name(word) and word[0].islower()
    if sort == "HIGH":
        return is_name(word) and word[0].isupper()
    if sort == "FIELD":
        return word == "number" or fits("HIGH", word)
    if sort in LETTERED:
        letter, many = LETTERED[sort]
        return word in [letter + str(number) for number in range(many)]
    if sort in FIGURES:
        return figures(word, FIGURES[sort])
    if sort == "NUMBER":
        return figures(word[1:] if word.startswith("-") else word, 10 ** 12)
    return word == sort


# A pattern is ("word", sort), ("seq", patterns), ("any", pattern) for as many as wanted, or ("one", patterns).
def seq(*parts):
    return ("seq", tuple(("word", part) if type(part) is str else part for part in parts))


def any_of(*parts):
    return ("any", seq(*parts))


def one(*parts):
    return ("one", tuple(("word", part) if type(part) is str else part for part in parts))


def maybe(*parts):
    return one(seq(*parts), seq())


def listed(sort):
    return seq("(", maybe(sort, any_of(",", sort)), ")")


DEEDS = seq("{", any_of(one(seq("hold", "register"), seq("drop", "register"), seq("free", "token", ":", "size"))), "}")
NEXT = seq("->", maybe(DEEDS), "row")
BRANCH = seq(listed("register"), NEXT)
SET = one(
    seq("NUMBER", NEXT),
    seq("register", one("+", "-"), "register", NEXT),
    seq("HIGH", listed("register"), maybe("in", "token"), NEXT),
    seq("LOW", listed("register"), NEXT))
ROW = seq(maybe(DEEDS), one(
    seq("register", "=", SET),
    seq("register", "<", "register", NEXT, ",", NEXT),
    seq("case", "register", maybe("into", "token"), BRANCH, any_of(",", BRANCH)),
    seq("give", "register")), ";")
MAKER = seq("HIGH", listed("FIELD"))
KIND = seq("kind", "HIGH", "{", MAKER, any_of(MAKER), "}")
FUNCTION = seq("fun", "LOW", listed("FIELD"), "FIELD", "{", maybe("entry", DEEDS, ";"), ROW, any_of(ROW), "}")
TEXT = seq(KIND, any_of(KIND), FUNCTION, any_of(FUNCTION))


def opened(pending):
    """All ((word's sort), what is pending behind it) with which pending patterns can go on, () where they can end."""
    if not pending:
        return [()]
    pattern, rest = pending[0], pending[1:]
    if pattern[0] == "word":
        return [(pattern[1], rest)]
    if pattern[0] == "seq":
        return opened(pattern[1] + rest)
    if pattern[0] == "any":
        return opened(rest) + opened((pattern[1],) + pending)
    return [found for part in pattern[1] for found in opened((part,) + rest)]


def wrong_place(text):
    """The place of the first word that cannot stand, the text's length if the words end too early, None if all fit."""
    states = {(TEXT,)}
    for word, place in words(text):
        states = {found[1] for pending in states for found in opened(pending) if found and fits(found[0], word)}
        if not states:
            return place
    return None if any(() in opened(pending) for pending in states) else len(text)
