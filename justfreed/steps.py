"""Steps from placings to placings, and logs of steps that lead from one right placing to another one."""

from justfreed.checks import checked
from justfreed.errors import BadLog, HasTokens, NotLet, TooGreat
from justfreed.judging import (
    FREE, MOST_DEEDS, Line, Wants, are_deeds, begin_state, deed_want, effects, first_fall, joined, judge, need_placing,
    right_tables)
from justfreed.programs import REGISTERS, begins_with_word, is_integer, is_register, is_tuple_of
from justfreed.ways import courses

MOST_STEPS = 4000
MOST_POINTS = 120
MOST_LEVEL = 60


class Draft:
    """What a placing has for a function, as steps change it: its deeds by spot.

    Effects are those that judging tells of, by slot: of a row by itself, without deeds, and of each spot's deeds, as
    far as these were asked for since they were put there.
    """

    def __init__(self, course, part):
        wants = Wants(course, with_spots(part, {spot: () for spot in deeds_by_spot(part)}))
        self.course = course
        self.part = part
        self.leads = spot_leads(course)
        self.deeds = deeds_by_spot(part)
        self.row_ahead = [effects(row_wants) for row_wants in wants.ahead]
        self.row_behind = [[effects(edge) for edge in edges] for edges in wants.behind]
        self.spot_effects = {}


class Replay:
    """A placing on which steps are done, with drafts of what they changed, and whether it is known to be right."""

    def __init__(self, program, placing):
        self.program = program
        self.courses = courses(program)
        self.placing = placing
        self.drafts = {}
        self.right = False


def stepped(program, placing, step):
    """The placing behind a step."""
    checked(program)
    need_placing(program, placing)
    return behind_steps(program, placing, (step,))


def replayed(program, placing, log):
    """The placing behind all steps of a log."""
    checked(program)
    need_placing(program, placing)
    if type(log) is not tuple or len(log) > MOST_STEPS:
        raise BadLog("this is no tuple of at most 4000 entries")
    return behind_steps(program, placing, log)


def behind_steps(program, placing, steps):
    """The placing behind steps; raises NotLet of the first object that is no step, or is not let."""
    replay = Replay(program, placing)
    for index, step in enumerate(steps):
        if not is_let(replay, step):
            raise NotLet(index)
    return placing_behind(replay)


def placing_behind(replay):
    """The placing behind the steps that were done."""
    parts = list(replay.placing)
    for at, draft in replay.drafts.items():
        parts[at] = with_spots(draft.part, draft.deeds)
    return tuple(parts)


def is_let(replay, step):
    """Whether any object is a step that is let; it is done then."""
    at = index_of_step(replay.courses, step)
    if at is None:
        return False
    if at not in replay.drafts:
        replay.drafts[at] = Draft(replay.courses[at], replay.placing[at])
    draft = replay.drafts[at]
    spots = spots_behind(draft, step)
    if any([len(deeds) > MOST_DEEDS for deeds in spots.values()]):
        return False
    slots = slots_changed(draft, step)
    for spot, deeds in spots.items():
        draft.deeds[spot] = deeds
        draft.spot_effects.pop(spot, None)
    if replay.right:
        # What was right can fall by those slots alone of which deeds are changed.
        return all([first_fall(line_of(draft, slot), draft.course.leads)[0] is None for slot in slots])
    replay.right = judge(replay.program, placing_behind(replay))[0] == "right"
    return replay.right


def index_of_step(all_courses, thing):
    """The index of the function that any object is a step of, by its form, or None."""
    if not begins_with_word(thing) or len(thing) < 2 or type(thing[1]) is not str:
        return None
    for index, course in enumerate(all_courses):
        if course.name == thing[1] and is_step_of(course, thing):
            return index
    return None


def is_step_of(course, thing):
    """Whether a tuple that begins with a word and the function's name is a step, by its form."""
    if thing[0] == "spot" and len(thing) == 4:
        return is_spot(course, thing[2]) and are_deeds(thing[3])
    if thing[0] == "level" and len(thing) == 5:
        return is_register(thing[2]) and are_points(course, thing[3]) and is_level(thing[4])
    return False


def is_row_of(course, thing):
    """Whether any object is a row of the function."""
    return is_integer(thing, 0, len(course.rows) - 1)


def is_spot(course, thing):
    """Whether any object is a spot of the function."""
    if not begins_with_word(thing):
        return False
    if len(thing) == 1:
        return thing[0] == "entry"
    if not is_row_of(course, thing[1]):
        return False
    if len(thing) == 2:
        return thing[0] == "before"
    return len(thing) == 3 and thing[0] == "edge" and is_integer(thing[2], 0, len(course.leads[thing[1]]) - 1)


def is_point(course, thing):
    """Whether any object is a point of the function."""
    return begins_with_word(thing) and len(thing) == 2 and thing[0] in ("mid", "start") and is_row_of(course, thing[1])


def are_points(course, thing):
    """Whether any object is an ascending tuple of points of the function."""
    if not is_tuple_of(thing, 1, MOST_POINTS, lambda part: is_point(course, part)):
        return False
    return list(thing) == sorted(set(thing))


def is_level(thing):
    """Whether any object may tell by how much a register is raised, or lowered."""
    return is_integer(thing, -MOST_LEVEL, MOST_LEVEL) and thing != 0


def spot_leads(course):
    """(spot, point that it leads from, point that it leads to) of each spot; the entry leads from None."""
    found = [(("entry",), None, ("start", 0))]
    for row, gotos in enumerate(course.leads):
        found.append((("before", row), ("start", row), ("mid", row)))
        found.extend([(("edge", row, which), ("mid", row), ("start", goto)) for which, goto in enumerate(gotos)])
    return found


def deeds_by_spot(part):
    """The deeds of each spot that a placing has for a function."""
    entry, rows = part
    found = {("entry",): entry}
    for row, (before, _, edges) in enumerate(rows):
        found[("before", row)] = before
        for which, deeds in enumerate(edges):
            found[("edge", row, which)] = deeds
    return found


def with_spots(part, spots):
    """What a placing has for a function, with other deeds at some spots."""
    entry, rows = part
    changed = []
    for row, (before, token, edges) in enumerate(rows):
        put = [spots.get(("edge", row, which), deeds) for which, deeds in enumerate(edges)]
        changed.append((spots.get(("before", row), before), token, tuple(put)))
    return (spots.get(("entry",), entry), tuple(changed))


def spots_behind(draft, step):
    """The deeds, by spot, of those spots that a step changes."""
    if step[0] == "spot":
        return {step[2]: step[3]}
    _, _, r, points, k = step
    return leveled(draft.leads, draft.deeds, r, points, k)


def leveled(leads, deeds, r, points, k):
    """By spot, the deeds at those that lead in among the points or out of them, with the register raised by k there."""
    more = (("hold", r),) * abs(k)
    less = (("drop", r),) * abs(k)
    among = {point: True for point in points}
    found = {}
    for spot, begin, end in leads:
        if end in among and begin not in among:
            found[spot] = without_idle(deeds[spot] + (more if k > 0 else less), r)
        if begin in among and end not in among:
            found[spot] = without_idle((less if k > 0 else more) + deeds[spot], r)
    return found


def without_idle(deeds, r):
    """Deeds without neighbours that are a hold and a drop of the register, as long as there are any."""
    against = {("hold", r): ("drop", r), ("drop", r): ("hold", r)}
    left = []
    for deed in deeds:
        if left and against.get(deed) == left[-1]:
            left.pop()
        else:
            left.append(deed)
    return tuple(left)


def slot_of(deed):
    """The slot of a deed, as judging has them: its register, or its token behind all registers."""
    return REGISTERS + deed[1] if deed[0] == "free" else deed[1]


def slots_changed(draft, step):
    """The slots of which a step may change deeds."""
    if step[0] == "level":
        return [step[2]]
    return sorted({slot_of(deed) for deed in draft.deeds[step[2]] + step[3]})


def effect_at(draft, spot, slot):
    """The effect of a spot's deeds on a slot."""
    if spot not in draft.spot_effects:
        draft.spot_effects[spot] = effects([deed_want(deed) for deed in draft.deeds[spot]])
    return draft.spot_effects[spot].get(slot, FREE)


def line_of(draft, slot):
    """The line of a slot's number.

    That nothing is left at a give is told for the slots that the begin or a row changes; of others there never is any.
    """
    ahead = []
    behind = []
    for row, edges in enumerate(draft.row_behind):
        ahead.append(joined(effect_at(draft, ("before", row), slot), draft.row_ahead[row].get(slot, FREE)))
        behind.append([joined(edge.get(slot, FREE), effect_at(draft, ("edge", row, which), slot))
                       for which, edge in enumerate(edges)])
    return Line(begin_state(draft.course)[slot], effect_at(draft, ("entry",), slot), ahead, behind)


class Walk:
    """Steps on a function's deeds from those of one placing to those of another one, the goal, noted in a log."""

    def __init__(self, course, part, goal, log):
        self.name = course.name
        self.leads = spot_leads(course)
        self.deeds = deeds_by_spot(part)
        self.goal = deeds_by_spot(goal)
        self.log = log


def same_log(program, one, other):
    """A log that leads from one right placing to the other one."""
    tables = right_tables(program, one)
    goal_tables = right_tables(program, other)
    if has_tokens(one) or has_tokens(other):
        raise HasTokens("at least one of the placings has tokens")
    log = []
    for at, course in enumerate(courses(program)):
        if one[at] != other[at]:
            walk_on(Walk(course, one[at], other[at], log), tables[at], goal_tables[at])
    return tuple(log)


def has_tokens(placing):
    """Whether a token stands anywhere in a placing."""
    return any([token is not None for _, rows in placing for _, token, _ in rows])


def walk_on(walk, table, goal_table):
    """Notes the steps of one function.

    Behind each step a register is held as often as the lesser of what the begun placing and the goal tell, one of
    both with a number added to it. So each spot has as many holds or drops of it, net, as in one of both, or a number
    between; cut deeds then never want what is not there, and 28 deeds against 28 come to no more than 56 at a spot.
    """
    for spot, deeds in list(walk.deeds.items()):
        if deeds != walk.goal[spot]:
            put(walk, spot, cut(deeds))
    for r in range(REGISTERS):
        gaps = gaps_at(walk, table, goal_table, r)
        level_off(walk, r, {point: max(gap, 0) for point, gap in gaps.items()}, -1)
        level_off(walk, r, {point: max(-gap, 0) for point, gap in gaps.items()}, 1)
    for spot, deeds in walk.goal.items():
        put(walk, spot, deeds)


def note(walk, step):
    """Puts a step into the log."""
    if len(walk.log) == MOST_STEPS:
        raise TooGreat("the log would have more than 4000 steps")
    walk.log.append(step)


def put(walk, spot, deeds):
    """Gives a spot deeds, by a step if it has others."""
    if deeds != walk.deeds[spot]:
        walk.deeds[spot] = deeds
        note(walk, ("spot", walk.name, spot, deeds))


def net(deeds, r):
    """How many more holds than drops of a register there are."""
    return deeds.count(("hold", r)) - deeds.count(("drop", r))


def cut(deeds):
    """What is left of deeds: of each register as many holds or drops as there are more of them."""
    left = []
    for r in sorted({deed[1] for deed in deeds}):
        more = net(deeds, r)
        left.extend([("hold" if more > 0 else "drop", r)] * abs(more))
    return tuple(left) if len(left) < len(deeds) else deeds


def gaps_at(walk, table, goal_table, r):
    """For each point how much oftener the register is held there than the goal tells."""
    gaps = {}
    for (row, holds, _), (_, goal_holds, _) in zip(table, goal_table):
        spot = ("before", row)
        gap = dict(holds).get(r, 0) - dict(goal_holds).get(r, 0)
        gaps[("start", row)] = gap
        gaps[("mid", row)] = gap + net(walk.deeds[spot], r) - net(walk.goal[spot], r)
    return gaps


def level_off(walk, r, heights, sign):
    """Lowers the register, if the sign is -1, or raises it, by its height at each point."""
    for spot, begin, end in walk.leads:
        # So that what a level puts there stands beside what it may fall away with.
        if heights[end] > heights.get(begin, 0):
            put(walk, spot, moved(walk.deeds[spot], r, True))
        elif heights[end] < heights.get(begin, 0):
            put(walk, spot, moved(walk.deeds[spot], r, False))
    stages = [0] + sorted({height for height in heights.values() if height > 0})
    levels = list(zip(stages, stages[1:]))
    if sign < 0:
        # The highest points are raised last, but lowered first.
        levels = levels[::-1]
    for low, high in levels:
        points = tuple(sorted([point for point, height in heights.items() if height >= high]))
        for at in range(low, high, MOST_LEVEL):
            level(walk, r, points, sign * min(high - at, MOST_LEVEL))


def moved(deeds, r, last):
    """Deeds with those of a register behind all others, or ahead of them."""
    own = tuple([deed for deed in deeds if deed[1] == r])
    others = tuple([deed for deed in deeds if deed[1] != r])
    return others + own if last else own + others


def level(walk, r, points, k):
    """Raises the register by k at the points, by a step."""
    changed = leveled(walk.leads, walk.deeds, r, points, k)
    for spot, deeds in changed.items():
        if len(deeds) > MOST_DEEDS:
            raise TooGreat("a spot would have more than sixty deeds")
        walk.deeds[spot] = deeds
    note(walk, ("level", walk.name, r, points, k))
