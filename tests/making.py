"""Makes small programs by chance, from seeds, most of them right or nearly so."""

WORDS = ("number", "add", "sub", "less", "make", "match", "call", "give")


class Maker:
    """Makes one program."""

    def __init__(self, chance, registers=7, rows=14, joins=0.5):
        self.chance = chance
        self.joins = joins
        self.many_registers = registers
        self.most_rows = rows
        self.kinds = self.make_kinds()
        self.heads = self.make_heads()

    def make_kinds(self):
        chance = self.chance
        names = ["A", "B", "C"][:chance.randint(1, 3)]
        kinds = []
        for name in names:
            makers = [(name + "0", tuple("number" for _ in range(chance.randint(0, 2))))]
            for at in range(1, chance.randint(1, 3)):
                makers.append((name + str(at), tuple(chance.choice(names + ["number"])
                                                     for _ in range(chance.randint(0, 4)))))
            kinds.append((name, tuple(makers)))
        return tuple(kinds)

    def word(self):
        return self.chance.choice([kind for kind, _ in self.kinds] + ["number"])

    def make_heads(self):
        many = self.chance.randint(1, 3)
        return [(f"f{at}", tuple(self.word() for _ in range(self.chance.randint(0, 3))), self.word())
                for at in range(many)]

    def program(self):
        return (self.kinds, tuple(self.function(head) for head in self.heads))

    def function(self, head):
        name, params, result = head
        self.rows = []
        self.states = []
        self.result = result
        self.grow(dict(enumerate(params)), 5)
        return (name, params, result, self.shuffled())

    def shuffled(self):
        """The rows in another order, but for row 0."""
        order = list(range(1, len(self.rows)))
        self.chance.shuffle(order)
        order = [0] + order
        place = {old: new for new, old in enumerate(order)}
        return tuple(moved(self.rows[old], place) for old in order)

    def room(self):
        return self.most_rows - len(self.rows)

    def grow(self, has, deep):
        """The index of a row at which registers have so much, new or (now and then) an old one."""
        fitting = [at for at, state in enumerate(self.states)
                   if self.rows[at] is not None and all(has.get(r) == word for r, word in state.items())]
        if fitting and self.chance.random() < self.joins:
            return self.chance.choice(fitting)
        at = len(self.rows)
        self.rows.append(None)
        self.states.append(dict(has))
        self.rows[at] = self.row(has, deep)
        return at

    def row(self, has, deep):
        chance = self.chance
        with_word = {}
        for r, word in has.items():
            with_word.setdefault(word, []).append(r)
        trees = [r for r, word in has.items() if word != "number"]
        if (deep <= 0 or self.room() <= 2 or chance.random() < 0.15) and self.result in with_word:
            return ("give", chance.choice(with_word[self.result]))
        if deep <= -3 or self.room() <= 0:
            return ("give", chance.randrange(self.many_registers))
        word = chance.choice(WORDS[:-1])
        r = chance.randrange(self.many_registers)
        numbers = with_word.get("number", [])
        if deep <= 0 and self.result != "number":
            word = "make"
        if word == "match" and trees and self.room() > 4:
            return self.match(has, chance.choice(trees), deep)
        if word == "less" and numbers:
            return ("less", chance.choice(numbers), chance.choice(numbers), self.grow(has, deep - 1),
                    self.grow(has, deep - 1))
        if word in ("add", "sub") and numbers:
            return (word, r, chance.choice(numbers), chance.choice(numbers), self.grow({**has, r: "number"}, deep - 1))
        if word == "call":
            name, params, result = chance.choice(self.heads)
            if all(param in with_word for param in params):
                args = tuple(chance.choice(with_word[param]) for param in params)
                return ("call", r, name, args, self.grow({**has, r: result}, deep - 1))
        makers = [(kind, maker, fields) for kind, made in self.kinds for maker, fields in made
                  if all(field in with_word for field in fields) and (deep > 0 or kind == self.result)]
        if makers and word != "number":
            kind, maker, fields = chance.choice(makers)
            args = tuple(chance.choice(with_word[field]) for field in fields)
            return ("make", r, maker, args, self.grow({**has, r: kind}, deep - 1))
        number = chance.choice((0, 1, -1, 5, 10 ** 12, -10 ** 12))
        return ("number", r, number, self.grow({**has, r: "number"}, deep - 1))

    def match(self, has, a, deep):
        free = [r for r in range(12) if has.get(r, "number") == "number"]
        branches = []
        for _, fields in dict(self.kinds)[has[a]]:
            setting = tuple(self.chance.sample(free, len(fields))) if len(free) >= len(fields) else ()
            branches.append((setting, self.grow({**has, **dict(zip(setting, fields))}, deep - 1)))
        return ("match", a, tuple(branches))


def moved(row, place):
    """A row with its nexts changed."""
    if row[0] == "give":
        return row
    if row[0] == "less":
        return row[:3] + (place[row[3]], place[row[4]])
    if row[0] == "match":
        return row[:2] + (tuple((setting, place[goto]) for setting, goto in row[2]),)
    return row[:-1] + (place[row[-1]],)


def changed(chance, program):
    """The program with one thing in one row changed, right by form, as a rule wrong."""
    kinds, functions = program
    at = chance.randrange(len(functions))
    name, params, result, rows = functions[at]
    where = chance.randrange(len(rows))
    rows = rows[:where] + (changed_row(chance, rows[where], len(rows)),) + rows[where + 1:]
    if chance.random() < 0.1:
        result = chance.choice([kind for kind, _ in kinds] + ["number", "Nokind"])
    if chance.random() < 0.03:
        name = "f0"
    return (kinds, functions[:at] + ((name, params, result, rows),) + functions[at + 1:])


def changed_row(chance, row, many_rows):
    r = chance.randrange(8)
    goto = chance.randrange(min(many_rows + (chance.random() < 0.2), 60))
    if row[0] == "match":
        return ("match", row[1], changed_branches(chance, row[2], r, goto)) if chance.random() < 0.8 else (
            "match", r, row[2])
    if row[0] == "give":
        return chance.choice((("give", r), ("number", r, 0, goto)))
    if row[0] in ("make", "call"):
        args = row[3]
        return chance.choice((
            row[:1] + (r,) + row[2:], row[:4] + (goto,), row[:3] + (args[:-1],) + row[4:],
            row[:3] + ((args + (r,))[:4],) + row[4:], row[:3] + (tuple(chance.randrange(8) for _ in args),) + row[4:],
            row[:2] + (chance.choice(("A0", "B1", "Nomaker") if row[0] == "make" else ("f0", "f1", "nofun")),) + row[3:]))
    slot = chance.randrange(1, len(row))
    if row[0] == "number":
        slot = chance.choice((1, 3))
    is_goto = slot == len(row) - 1 or row[0] == "less" and slot == 3
    return row[:slot] + (goto if is_goto else r,) + row[slot + 1:]


def changed_branches(chance, branches, r, goto):
    at = chance.randrange(len(branches))
    setting, old = branches[at]
    setting, old = chance.choice((
        (setting, goto), (setting[:-1], old), ((setting + (r,))[:4], old), ((r,) + setting[1:], old), ((r,) + setting[1:], old),
        (tuple(chance.randrange(8) for _ in setting), old)))
    branches = branches[:at] + ((setting, old),) + branches[at + 1:]
    if chance.random() < 0.2:
        return branches[:-1] or branches
    if chance.random() < 0.2:
        return (branches + ((setting, goto),))[:6]
    return branches


def tree(chance, kinds, kind, deep=4):
    """The sayings of a tree, or a number."""
    if kind == "number":
        return (chance.randint(-3, 3),)
    makers = dict(kinds)[kind]
    maker, fields = chance.choice(makers) if deep > 0 else makers[0]
    return (maker,) + tuple(entry for field in fields for entry in tree(chance, kinds, field, deep - 1))


def args_for(chance, kinds, params):
    return tuple(chance.randint(-3, 3) if word == "number" else tree(chance, kinds, word) for word in params)
