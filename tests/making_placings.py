"""Makes placings of small programs by chance: right ones, and such as are a little wrong."""

from tests.placings import deeds_at, leads_of, spots_of, with_deeds, with_token
from tests.reference_placings import Function, needed


def raised(chance, program, placing):
    """One hold more of a register among some of the points at which it is needed, or is so by chance."""
    index = chance.randrange(len(placing))
    name, _, _, rows = program[1][index]
    need = needed(Function(program, name))
    r = chance.choice(sorted({r for part in need for r in part}) or [0])
    among = {point for at in range(len(rows)) for point in (("start", at), ("mid", at))
             if r in need[at] and chance.random() < 0.7 or chance.random() < 0.02}
    for spot, begin, end in leads_of(rows):
        deeds = deeds_at(placing, index, spot)
        if end in among and begin not in among:
            deeds = deeds + (("hold", r),)
        elif begin in among and end not in among:
            deeds = (("drop", r),) + deeds
        placing = with_deeds(placing, index, spot, deeds[:60])
    return placing


def any_deed(chance):
    if chance.random() < 0.2:
        return ("free", chance.randrange(3), chance.randrange(4))
    return (chance.choice(("hold", "drop")), chance.randrange(8))


def moved(chance, placing, index, spot, at):
    """A deed of a spot put at another spot of the function."""
    deeds = deeds_at(placing, index, spot)
    if at == len(deeds):
        return placing
    placing = with_deeds(placing, index, spot, deeds[:at] + deeds[at + 1:])
    _, other = chance.choice([pair for pair in spots_of(placing) if pair[0] == index])
    return with_deeds(placing, index, other, (deeds_at(placing, index, other) + deeds[at:at + 1])[:60])


def changed(chance, program, placing):
    """The placing with one thing changed somewhere."""
    index, spot = chance.choice(spots_of(placing))
    deeds = deeds_at(placing, index, spot)
    if deeds == () and chance.random() < 0.5:
        index, spot = chance.choice([pair for pair in spots_of(placing) if deeds_at(placing, *pair)] or [(index, spot)])
        deeds = deeds_at(placing, index, spot)
    at = chance.randint(0, max(len(deeds) - 1, 0))
    what = chance.randrange(9)
    if what <= 2:
        return raised(chance, program, placing)
    if what == 3:
        return with_deeds(placing, index, spot, deeds[:at] + (any_deed(chance),) + deeds[at:59])
    if what == 4:
        r = chance.randrange(8)
        return with_deeds(placing, index, spot, deeds[:at] + (("hold", r), ("drop", r)) + deeds[at:58])
    if what == 5:
        return with_deeds(placing, index, spot, deeds[:at] + deeds[at + 1:])
    if what == 6:
        return with_deeds(placing, index, spot, tuple(chance.sample(deeds, len(deeds))))
    if what == 7:
        return moved(chance, placing, index, spot, at)
    fitting = [place for place, row in enumerate(program[1][index][3]) if row[0] in ("match", "make")]
    if not fitting:
        return placing
    return with_token(placing, index, chance.choice(fitting), chance.choice((None, 0, 0, 1, 15)))
