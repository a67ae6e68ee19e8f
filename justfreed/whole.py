"""What is told of texts of programs and placings as a whole."""

from justfreed.checks import checked
from justfreed.errors import Unlike
from justfreed.judging import judge
from justfreed.placing import placed
from justfreed.steps import has_tokens, same_log
from justfreed.texts import read_text, write_text


def settled(text):
    """The text of a text's program with the told placing."""
    program, _ = checked_text(text)
    return write_text(program, placed(program))


def compared(text, other):
    """("broken", which, fault) of the first of two texts' placings that is not right, else ("right", log)."""
    program, one_placing = checked_text(text)
    other_program, other_placing = checked_text(other)
    if program != other_program:
        raise Unlike("the texts are of unlike programs")
    for which, placing in ((0, one_placing), (1, other_placing)):
        told = judge(program, placing)
        if told[0] == "wrong":
            return ("broken", which, told[1:])
    if has_tokens(one_placing) or has_tokens(other_placing):
        return ("right", None)
    return ("right", same_log(program, one_placing, other_placing))


def checked_text(text):
    """The program and the placing of a text; raises BadText, and NotChecked of a program that is not right."""
    program, placing = read_text(text)
    checked(program)
    return program, placing
