"""Kinds, programs and odd objects that several tests take."""


class Spiteful:
    """An object that raises whatever is asked of it."""

    def refuse(self, *rest):
        raise RuntimeError("asked")

    __eq__ = __ne__ = __lt__ = __le__ = __gt__ = __ge__ = refuse
    __hash__ = __len__ = __iter__ = __getitem__ = __contains__ = refuse
    __bool__ = __int__ = __index__ = __add__ = __radd__ = refuse


class Posing:
    """An object that says of itself to be of another class, and to be equal to anything."""

    def __init__(self, shape, word="number"):
        self.shape = shape
        self.word = word

    @property
    def __class__(self):
        return self.shape

    def __eq__(self, other):
        return True

    def __hash__(self):
        return hash(self.word)

    def __len__(self):
        return 2

    def __iter__(self):
        return iter(())

    def __getitem__(self, at):
        raise IndexError


class OwnList(list):
    pass


class OwnDict(dict):
    pass


def nested(levels, core=(), wrap=tuple):
    """The core within so many tuples, or lists."""
    thing = core
    for _ in range(levels):
        thing = wrap((thing,))
    return thing


# None of these is a name, a number, kinds, a tree, a program or any tuple that stands in one.
ODD = (
    None, True, False, "", "no name", "\n", b"", b"Nil", b"number", [], {}, set(), frozenset(), object(), int, str,
    tuple, len, Spiteful, Spiteful(), Posing(int), Posing(str), Posing(tuple), Posing(str, "Nil"), Posing(str, "List"), OwnList(), OwnDict(), 1j,
    range(3), [0], [1], ["number"], ["Nil"], {"number": 1}, {0: 0}, {0}, 10 ** 30, -10 ** 30, 10 ** 5000, "a" * 5000,
    iter(()), nested(79), nested(79, 0), nested(79, "number"), nested(79, [], list), ((),) * 9, ("number",) * 9,
    nested(77, ((), [], {})), memoryview(b"ab"), bytearray(b"ab"), ...,
)

LIST_KINDS = (("List", (("Nil", ()), ("Cons", ("number", "List")))),)

# A kind of each sort: several makers, one maker, no tree, a name that is a maker's too, none to four fields.
MANY_KINDS = (
    ("Tree", (("Leaf", ()), ("Node", ("Tree", "number", "Tree")), ("One", ("number",)))),
    ("Pair", (("Pair", ("Tree", "List")),)),
    ("List", (("Nil", ()), ("Cons", ("number", "List")))),
    ("Loop", (("Again", ("Loop",)),)),
    ("Wide", (("Wide4", ("Wide", "number", "Tree", "number")), ("Wide0", ()))),
)


def cons(numbers):
    """The sayings of a list of numbers."""
    return tuple(word for number in numbers for word in ("Cons", number)) + ("Nil",)


REVERSE = (
    "rev", ("List", "List"), "List",
    (("match", 0, (((), 2), ((3, 4), 1))),
     ("make", 1, "Cons", (3, 1), 3),
     ("give", 1),
     ("call", 5, "rev", (4, 1), 4),
     ("give", 5)))

SUM = (
    "sum", ("List",), "number",
    (("match", 0, (((), 2), ((1, 2), 1))),
     ("call", 3, "sum", (2,), 3),
     ("number", 1, 0, 4),
     ("add", 1, 1, 3, 4),
     ("give", 1)))

SAME = ("same", ("List",), "List", (("give", 0),))

# sumloop walks the list by a loop, its rows out of order; register 5 has something on one way to row 3 alone.
SUM_LOOP = (
    "sumloop", ("List",), "number",
    (("number", 1, 0, 3),
     ("give", 1),
     ("add", 1, 1, 4, 4),
     ("match", 0, (((), 1), ((4, 5), 2))),
     ("call", 0, "same", (5,), 3)))

# count gives how many numbers below its second argument stand in a list.
COUNT = (
    "count", ("List", "number"), "number",
    (("match", 0, (((), 5), ((2, 3), 1))),
     ("call", 4, "count", (3, 1), 2),
     ("less", 2, 1, 3, 4),
     ("number", 5, 1, 6),
     ("give", 4),
     ("number", 4, 0, 4),
     ("add", 4, 4, 5, 4)))

LIST_PROGRAM = (LIST_KINDS, (REVERSE, SUM, COUNT, SUM_LOOP, SAME))


def program_of(*rows, params=(), result="number", kinds=LIST_KINDS, name="f", others=()):
    """A program whose first function has the rows."""
    return (kinds, ((name, params, result, rows),) + tuple(others))


SIZE_KINDS = (("S", tuple((f"S{size}", ("number",) * size) for size in range(5))), ("T", (("T2", ("S", "S")), ("T0", ()))))

GIVE = program_of(("give", 0), params=("List",), result="List")
TWO = program_of(("give", 0), params=("List", "List"), result="List")
NUMBER = program_of(("number", 2, 0, 1), ("give", 2), params=("List", "List"))

# Two ways of unlike length to row 3; behind it a call and a give.
JOIN = program_of(
    ("less", 1, 1, 1, 2), ("add", 1, 1, 1, 3), ("add", 1, 1, 1, 4), ("call", 0, "f", (0, 1), 5), ("add", 1, 1, 1, 3),
    ("give", 0), params=("List", "number"), result="List")

# Rows 1 and 0 are a loop, left by row 2.
LOOP = program_of(("less", 1, 1, 1, 2), ("add", 1, 1, 1, 0), ("give", 0), params=("List", "number"), result="List")

# A branch for each size, and a make of the same size on it.
SIZES = program_of(
    ("match", 0, tuple((tuple(range(1, 1 + size)), 1 + size) for size in range(5))),
    *[("make", 0, f"S{size}", tuple(range(1, 1 + size)), 6) for size in range(5)],
    ("give", 0), params=("S",), result="S", kinds=SIZE_KINDS)

# Two cells are taken apart, one behind the other, and two made; all of them of size 2.
PAIRS = program_of(
    ("match", 0, (((2, 3), 1), ((), 5))), ("match", 1, (((4, 5), 2), ((), 6))), ("make", 6, "T2", (2, 3), 3),
    ("make", 7, "T2", (4, 5), 4), ("call", 8, "f", (6, 7), 7), ("give", 1), ("make", 8, "T2", (2, 3), 7), ("give", 8),
    params=("T", "T"), result="T", kinds=SIZE_KINDS)

# One maker with one field, so that a match has one branch.
CHAIN_KINDS = (("V", (("V1", ("V",)),)), ("W", (("W0", ()), ("W1", ("V",)))))


def chain(matches, makes):
    """Cells taken apart one behind the other, then made one around the other."""
    rows = [("match", at, (((at + 1,), at + 1),)) for at in range(matches)]
    rows += [("make", matches, "V1", (matches,), matches + at + 1) for at in range(makes)]
    return program_of(*rows, ("give", matches), params=("V",), result="V", kinds=CHAIN_KINDS)


# Gives the rest of a list, or a new empty list.
TAIL = program_of(("match", 0, (((), 1), ((1, 2), 2))), ("make", 2, "Nil", (), 2), ("give", 2), params=("List",), result="List")
# Gives its list; register 1 has a number, registers 3 and above have nothing.
KEEP = program_of(("number", 1, 7, 1), ("give", 0), params=("List", "number"), result="List")
# A cell around two others, that may be one; then it gives the second list.
PAIR = program_of(("make", 2, "T2", (0, 1), 1), ("match", 2, (((3, 4), 2), ((), 3))), ("give", 4), ("give", 1),
                  params=("S", "S"), result="S", kinds=SIZE_KINDS)
BOTH = program_of(("make", 1, "T2", (0, 0), 1), ("give", 1), params=("S",), result="T", kinds=SIZE_KINDS)
# Two cells taken apart one behind the other, and a cell of size 2 made.
TWICE = program_of(("match", 0, (((), 3), ((2, 3), 1))), ("match", 3, (((), 3), ((4, 5), 2))),
                   ("make", 1, "Cons", (2, 1), 3), ("give", 1), params=("List", "List"), result="List")
# f calls g and goes on with what it gives.
CALLS = program_of(("call", 1, "g", (0,), 1), ("give", 1), params=("List",), result="List",
                   others=(("g", ("List",), "List", (("number", 1, 0, 1), ("give", 0))),))

# Makes a list of as many ones as told.
GROWS = program_of(("make", 1, "Nil", (), 1), ("number", 2, 1, 2), ("number", 3, 0, 3), ("less", 3, 0, 4, 6),
                   ("make", 1, "Cons", (2, 1), 5), ("sub", 0, 0, 2, 3), ("give", 1), params=("number",), result="List")

# Calls itself as often as told, and gives its list.
DEEP = program_of(("number", 2, 1, 1), ("number", 3, 0, 2), ("less", 3, 1, 3, 5), ("sub", 1, 1, 2, 4),
                  ("call", 0, "f", (0, 1), 5), ("give", 0), params=("List", "number"), result="List")


def replaced(thing, path, part):
    """A copy of nested tuples in which part stands at the path of indexes."""
    if not path:
        return part
    at = path[0]
    return thing[:at] + (replaced(thing[at], path[1:], part),) + thing[at + 1:]


def paths(thing, path=()):
    """The paths to all things in nested tuples, the whole among them."""
    found = [path]
    if type(thing) is tuple:
        for at, part in enumerate(thing):
            found += paths(part, path + (at,))
    return found


def part_at(thing, path):
    """What stands at a path."""
    for at in path:
        thing = thing[at]
    return thing
