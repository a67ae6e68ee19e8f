"""What [23] says, written as plainly as can be, to compare the package with on small programs.

It takes steps that are right by form, but for how many deeds come, and placings of programs that are right.
"""

from tests import reference_placings
from tests.placings import deeds_at, leads_of, spots_of, with_deeds


def fallen_away(deeds, r):
    """Deeds behind the falling away of neighbours, two at a time."""
    for at in range(len(deeds) - 1):
        if {deeds[at], deeds[at + 1]} == {("hold", r), ("drop", r)}:
            return fallen_away(deeds[:at] + deeds[at + 2:], r)
    return deeds


def changed(program, placing, step):
    """What comes of a step, whether or not it is let."""
    index = [function[0] for function in program[1]].index(step[1])
    if step[0] == "spot":
        return with_deeds(placing, index, step[2], step[3])
    _, _, r, points, k = step
    for spot, begin, end in leads_of(program[1][index][3]):
        deeds = deeds_at(placing, index, spot)
        if end in points and begin not in points:
            deeds += (("hold" if k > 0 else "drop", r),) * abs(k)
        elif begin in points and end not in points:
            deeds = (("drop" if k > 0 else "hold", r),) * abs(k) + deeds
        else:
            continue
        placing = with_deeds(placing, index, spot, fallen_away(deeds, r))
    return placing


def stepped(program, placing, step):
    """The placing behind a step, or None if it is not let."""
    placing = changed(program, placing, step)
    if any(len(deeds_at(placing, index, spot)) > 60 for index, spot in spots_of(placing)):
        return None
    return placing if reference_placings.judge(program, placing)[0] == "right" else None


def replayed(program, placing, log):
    """The placing behind a log, or the index of the first step that is not let."""
    for index, step in enumerate(log):
        placing = stepped(program, placing, step)
        if placing is None:
            return index
    return placing
