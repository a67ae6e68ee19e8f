"""What [20] to [22] say, written as plainly as can be, to compare the package with on small programs.

Called functions are done by calls of Python's, cells are let go by calls of Python's, and a fault is an exception.
"""

from tests import reference
from tests.reference import nexts_of


class Fault(Exception):
    def __init__(self, word):
        super().__init__(word)
        self.word = word


class Stopped(Exception):
    """As many rows as wanted are done, and there is one to be done next."""


class Cell:
    def __init__(self, maker, entries):
        self.maker = maker
        self.entries = entries
        self.count = 1
        self.went = False


class Frame:
    def __init__(self, name, has):
        self.name = name
        self.row = 0
        self.has = has
        self.tokens = {}


class Machine:
    def __init__(self, program, placing, most):
        self.words = reference.Words(program)
        self.placing = {function[0]: part for function, part in zip(program[1], placing)}
        self.most = most
        self.cells = []
        self.frames = []
        self.rows = self.holds = self.drops = self.new = self.anew = self.peak = 0

    def there(self):
        return len([cell for cell in self.cells if not cell.went])

    def make(self, maker, entries):
        self.cells.append(Cell(maker, entries))
        self.peak = max(self.peak, self.there())
        return ("cell", len(self.cells) - 1)

    def argument(self, word, entries):
        """What a parameter has, of sayings that are an iterator."""
        if word == "number":
            return ("number", next(entries))
        maker = next(entries)
        cell = Cell(maker, ())
        self.cells.append(cell)
        serial = len(self.cells) - 1
        cell.entries = tuple(self.argument(field, entries) for field in self.words.maker(maker)[1])
        return ("cell", serial)

    def inner(self, serial):
        return [entry[1] for entry in self.cells[serial].entries if entry[0] == "cell"]

    def let_go(self, serial):
        cell = self.cells[serial]
        if cell.went:
            return
        cell.count -= 1
        if cell.count == 0:
            cell.went = True
            for inner in self.inner(serial):
                self.let_go(inner)

    def read(self, frame, registers):
        for r in registers:
            if frame.has[r][0] == "cell" and self.cells[frame.has[r][1]].went:
                raise Fault("gone")

    def do_deeds(self, frame, deeds):
        for deed in deeds:
            if deed[0] == "free":
                if deed[1] in frame.tokens:
                    if frame.tokens[deed[1]] != deed[2]:
                        raise Fault("token")
                    del frame.tokens[deed[1]]
                continue
            if frame.has.get(deed[1], ("number", 0))[0] == "number":
                raise Fault("unset")
            self.read(frame, deed[1:])
            serial = frame.has[deed[1]][1]
            if deed[0] == "hold":
                self.cells[serial].count += 1
                self.holds += 1
            else:
                self.let_go(serial)
                self.drops += 1

    def call(self, name, has):
        """What the function gives."""
        frame = Frame(name, has)
        self.frames.append(frame)
        entry, parts = self.placing[name]
        self.do_deeds(frame, entry)
        while True:
            if self.rows == self.most:
                raise Stopped
            row = self.words.functions[name][3][frame.row]
            before, token, edges = parts[frame.row]
            self.do_deeds(frame, before)
            operands = {"number": (), "add": row[2:4], "sub": row[2:4], "less": row[1:3], "match": row[1:2],
                        "give": row[1:2]}.get(row[0]) if row[0] not in ("make", "call") else row[3]
            self.read(frame, operands)
            if row[0] == "match" and token in frame.tokens or row[0] == "give" and frame.tokens:
                raise Fault("token")
            if row[0] == "make" and token in frame.tokens and frame.tokens[token] != len(row[3]):
                raise Fault("token")
            self.rows += 1
            if row[0] == "give":
                self.frames.pop()
                return frame.has[row[1]]
            which = self.do_row(frame, row, token)
            self.do_deeds(frame, edges[which])
            frame.row = nexts_of(row)[which]

    def do_row(self, frame, row, token):
        has = frame.has
        if row[0] == "number":
            has[row[1]] = ("number", row[2])
        elif row[0] in ("add", "sub"):
            one, other = has[row[2]][1], has[row[3]][1]
            has[row[1]] = ("number", reference.bounded(one + other if row[0] == "add" else one - other))
        elif row[0] == "less":
            return 0 if has[row[1]][1] < has[row[2]][1] else 1
        elif row[0] == "make":
            if token in frame.tokens:
                del frame.tokens[token]
                self.anew += 1
            else:
                self.new += 1
            has[row[1]] = self.make(row[2], tuple(has[r] for r in row[3]))
        elif row[0] == "call":
            has[row[1]] = self.call(row[2], {at: has[r] for at, r in enumerate(row[3])})
        else:
            return self.match(frame, row, token)
        return 0

    def match(self, frame, row, token):
        serial = frame.has[row[1]][1]
        cell = self.cells[serial]
        if cell.count == 1:
            cell.went = True
            if token is not None:
                frame.tokens[token] = len(cell.entries)
        else:
            cell.count -= 1
            for inner in self.inner(serial):
                if not self.cells[inner].went:
                    self.cells[inner].count += 1
        makers = [maker for maker, _ in self.words.kinds[self.words.maker(cell.maker)[0]]]
        which = makers.index(cell.maker)
        frame.has.update(zip(row[2][which][0], cell.entries))
        return which

    def told(self):
        return (self.rows, self.holds, self.drops, self.new, self.anew, self.peak, self.there())

    def said(self, given):
        """The entries of what is given, 4,001 of them at most."""
        if given[0] == "number":
            return (given[1],)
        cell = self.cells[given[1]]
        found = (cell.maker,)
        for entry in cell.entries:
            found += self.said(entry)
            if len(found) > 4000:
                break
        return found

    def snapshot(self):
        calls = tuple((frame.name, frame.row, tuple(sorted(frame.has.items())), tuple(sorted(frame.tokens.items())))
                      for frame in self.frames)
        cells = tuple((serial, cell.count, cell.maker, cell.entries) for serial, cell in enumerate(self.cells)
                      if not cell.went)
        return calls, cells


def driven(program, placing, name, args, most):
    """(machine, word, what): the word of drive, behind so many rows."""
    machine = Machine(program, placing, most)
    params = machine.words.functions[name][1]
    has = {}
    for at, (word, arg) in enumerate(zip(params, args)):
        has[at] = ("number", arg) if word == "number" else machine.argument(word, iter(arg))
    machine.peak = machine.there()
    try:
        given = machine.call(name, has)
    except Fault as fault:
        return machine, "fault", fault.word
    except Stopped:
        return machine, "on", None
    if given[0] == "number":
        return machine, "ended", given[1]
    entries = machine.said(given)
    return machine, "ended", entries if len(entries) <= 4000 else None


def drive(program, placing, name, args, most):
    machine, word, what = driven(program, placing, name, args, most)
    return word, what, machine.told()


def look(program, placing, name, args, rows):
    machine, word, _ = driven(program, placing, name, args, rows)
    return machine.snapshot() if word == "on" else None
