"""Steps drawn for a module: such as may fit, and such as are spoilt in one entry."""

from anypasses.parts import value_types
from anypasses.pureness import folded
from anypasses.rangepapers import known_ranges
from anypasses.rules import RULES, rule_letters
from anypasses.shapes import end_targets
from anypasses.webs import reached_labels
from call_oracle import quiet_by_words
from memory_oracle import told_memory, told_offsets
from place_oracle import ahead, goes_to, unread

JUNK = (None, True, False, -1, 1.0, "", "0", "v", b"", (), [], {}, (0,), [0], ("v",), ("n", True), ("v", -1), ("v", 1.0), ("n", 2 ** 64), (1, True), 10 ** 30,
        ((0, 0), (0, 0)), ((True, 0),), ("fold",), ("rule", True), ("rule", -1), ("same", True), ("range", ()), ("unread", (), ()), ("same", ()))


def spoilt(rng, step):
    """The step with something else in the place of one entry, or with an entry more or less."""
    at = rng.randrange(len(step))
    if rng.random() < 0.1:
        return rng.choice((step[:at] + step[at + 1:], step + (0,), list(step), (step,)))
    return step[:at] + (rng.choice(JUNK),) + step[at + 1:]


class Drawer:
    """What may stand in the entries of steps on one function of a module."""

    def __init__(self, rng, module):
        self.rng = rng
        self.module = module
        self.function = rng.choice(module[1])
        self.name = self.function[0]
        self.blocks = self.function[3]
        self.labels = [block[0] for block in self.blocks]
        self.ops = [op for block in self.blocks for op in block[2]]
        self.kinds = dict(value_types(module, self.function))
        self.values = sorted(self.kinds) or [0]

    def label(self):
        return self.rng.choice(self.labels)

    def value(self):
        return self.rng.choice(self.values)

    def operand(self, kind=None):
        fitting = [("v", value) for value in self.values if kind is None or self.kinds.get(value) == kind]
        if kind is None or kind == "ptr":
            fitting += [("g", place[0]) for place in self.module[0]]
        if fitting and (kind == "ptr" or self.rng.random() < 0.7):
            return self.rng.choice(fitting)
        return ("n", self.rng.choice((0, 1, 1, 2, 255)))

    def made_by(self, *words):
        """Some value made by an op of one of these kinds, or any value."""
        return self.rng.choice([op[0] for op in self.ops if op[1] in words and op[0] is not None] or self.values)

    def ways(self, label):
        return sorted((block[0], at) for block in self.blocks for at, (other, _) in enumerate(end_targets(block[3])) if other == label)

    def some(self, things):
        """Some of these, ascending; one at least, if there is one."""
        kept = [thing for thing in things if self.rng.random() < 0.6]
        return tuple(sorted(kept or things[:1]))

    def put_in(self):
        block = self.rng.choice(self.blocks)
        pure = [op for op in self.ops if op[1] in ("bin", "cmp", "select", "cast", "at")]
        op = self.rng.choice(pure or [(0, "bin", ("add", 8), (("n", 1), ("n", 2)))])
        args = tuple(self.operand(self.kinds[arg[1]]) if arg[0] == "v" and self.rng.random() < 0.6 else arg for arg in op[3])
        value = max(self.values) + self.rng.randint(1, 5) if self.rng.random() < 0.9 else self.value()
        return ("put_in", self.name, block[0], self.rng.randint(0, len(block[2])), (value,) + op[1:3] + (args,))

    def take_out(self):
        return ("take_out", self.name, self.made_by("bin", "cmp", "select", "cast", "at", "alloca"))

    def take_lot(self):
        """A lot that grows by what uses its values."""
        lot = {self.value()}
        for _ in range(self.rng.randint(0, 4)):
            lot |= {op[0] for op in self.ops if op[0] is not None and any(arg[0] == "v" and arg[1] in lot for arg in op[3])}
            for block in self.blocks:
                for label, args in end_targets(block[3]):
                    params = [other for other in self.blocks if other[0] == label][0][1]
                    lot |= {value for (value, _), arg in zip(params, args) if arg[0] == "v" and arg[1] in lot}
        return ("take_lot", self.name, tuple(sorted(lot)))

    def use(self):
        rng, value = self.rng, self.value()
        word = rng.choice(("fold", "rule", "rule", "rule", "same", "same", "block_param", "block_param", "range", "range"))
        params = [value for block in self.blocks for value, _ in block[1]]
        if word == "block_param" and params:
            value = rng.choice(params)
            place = [[param for param, _ in block[1]].index(value) for block in self.blocks if value in dict(block[1])][0]
            label = [block[0] for block in self.blocks if value in dict(block[1])][0]
            handed = [target[1][place] for block in self.blocks for target in end_targets(block[3]) if target[0] == label]
            return ("use", self.name, value, rng.choice(handed or [self.operand(self.kinds[value])]), (word,))
        if word == "same":
            equal = [(one[0], other[0]) for one in self.ops for other in self.ops if one[0] is not None and one[0] != other[0] and one[1:] == other[1:]]
            value, other = rng.choice(equal or [(value, self.value())])
            return ("use", self.name, value, ("v", other), (word, other))
        if word == "range":
            paper = known_ranges(self.function)
            single = [(entry[0], entry[1]) for _, row in paper for entry in row if entry[1] == entry[2]]
            value, number = rng.choice(single or [(value, 0)])
            return ("use", self.name, value, ("n", number), (word, paper))
        operand = self.operand(self.kinds.get(value))
        if word == "fold":
            told = [(op[0], folded(op)) for op in self.ops if folded(op) is not None]
            value, number = rng.choice(told or [(value, 0)])
            return ("use", self.name, value, ("n", number) if rng.random() < 0.8 else operand, (word,))
        left = [(k, value) for value in self.values for k in range(len(RULES)) if rule_letters(self.module, self.function, k, value)]
        k, value = rng.choice(left or [(rng.randrange(len(RULES)), value)])
        fitting = [letter[1] for letter in rule_letters(self.module, self.function, k, value) or ()] + [("n", 0), ("n", 1)]
        fitting += [("v", op[0]) for op in self.ops if op[2][0] == RULES[k][1].split()[0]] + [operand]
        return ("use", self.name, value, rng.choice(fitting), (word, k))

    def use_in(self):
        ends = {block[0]: block[3] for block in self.blocks}
        alone = [(label, self.ways(label)) for label in self.labels if len(self.ways(label)) == 1]
        sides = [label for label, ways in alone if ends[ways[0][0]][0] == "branch" and ends[ways[0][0]][1][0] == "v"]
        label = self.rng.choice(sides if sides and self.rng.random() < 0.8 else self.labels)
        ways = self.ways(label)
        value, operand = self.value(), self.operand()
        if ways:
            end = [block[3] for block in self.blocks if block[0] == ways[0][0]][0]
            if end[0] == "branch" and end[1][0] == "v":
                value, operand = end[1][1], ("n", self.rng.randint(0, 1))
                made = [op for op in self.ops if op[0] == value and op[1] == "cmp"]
                if made and self.rng.random() < 0.6:
                    one, operand = self.rng.choice((made[0][3], made[0][3][::-1]))
                    value = one[1] if one[0] == "v" else value
        return ("use_in", self.name, label, value, operand)

    def pick(self):
        return ("pick", self.name, self.label())

    def drop(self):
        return ("drop", self.name)

    def join(self):
        alone = [label for label in self.labels if len(self.ways(label)) == 1]
        return ("join", self.name, self.rng.choice(alone or self.labels))

    def bend(self):
        empty = [block[0] for block in self.blocks if not block[2] and block[3][0] == "jump"]
        ways = [way for label in empty for way in self.ways(label)]
        if ways and self.rng.random() < 0.8:
            return ("bend", self.name) + self.rng.choice(ways)
        return ("bend", self.name, self.label(), self.rng.randint(0, 1))

    def land(self):
        label = self.rng.choice(self.labels[1:] or self.labels)
        return ("land", self.name, label, self.some(self.ways(label)))

    def twin(self):
        return ("twin",) + self.land()[1:]

    def carry(self):
        labels = self.some(self.labels[1:] or self.labels)
        return ("carry", self.name, labels if self.rng.random() < 0.4 else labels[:1], self.value())

    def param_out(self):
        with_params = [(block[0], at) for block in self.blocks for at in range(len(block[1]))]
        label, at = self.rng.choice(with_params or [(self.label(), 0)])
        return ("param_out", self.name, label, at)

    def step(self, word):
        """A step with this word."""
        return getattr(self, word)()

    def place_of_some(self, kind):
        """The label and the index of some load or store, and its place; the first op's block if there is none."""
        found = [(block[0], at, op) for block in self.blocks for at, op in enumerate(block[2]) if op[1] == kind]
        if not found:
            return self.label(), 0, None
        label, at, op = self.rng.choice(found)
        return label, at, goes_to(self.function, op)

    def contents(self, spot):
        """A contents paper that may hold: what all ways bring, or a param for which all hand it on."""
        reached = reached_labels(self.function)
        told = {label: "all" for label in reached if label != self.labels[0]}
        keep_params = self.rng.random() < 0.7
        for _ in range(3 * len(told) + 1):
            known = {label: operand for label, operand in told.items() if operand not in ("all", None)}
            for label in list(told):
                params = [block for block in self.blocks if block[0] == label][0][1]
                brought = []
                for source, at in self.ways(label):
                    if source in reached and told.get(source) != "all":
                        block = [block for block in self.blocks if block[0] == source][0]
                        content = ahead(self.module, self.function, spot, known, source, len(block[2]))
                        brought.append((content, end_targets(block[3])[at][1]))
                if not brought:
                    continue
                new = brought[0][0] if len({content for content, _ in brought}) == 1 else None
                if new in [("v", value) for value, _ in params]:
                    new = None
                for at, (value, kind) in enumerate(params):
                    if (new is None or keep_params) and kind == spot[2] and all(content is not None and args[at] == content for content, args in brought):
                        new = ("v", value)
                told[label] = new
        paper = tuple(sorted((label, operand) for label, operand in told.items() if operand not in ("all", None)))
        if self.rng.random() < 0.15 and paper:
            at = self.rng.randrange(len(paper))
            paper = paper[:at] + self.rng.choice(((), ((paper[at][0], self.operand()),), ((self.label(), paper[at][1]),))) + paper[at + 1:]
        return paper

    def unread_labels(self, spot):
        """The labels from which on a place is unread, perhaps one more or less."""
        labels = sorted(self.labels)
        while True:
            kept = [label for label in labels if unread(self.module, self.function, spot, labels, label, 0)]
            if kept == labels:
                break
            labels = kept
        if self.rng.random() < 0.2:
            other = self.label()
            labels = sorted(set(labels) ^ {other})
        return tuple(labels)

    def forward(self):
        label, at, spot = self.place_of_some("load")
        if spot is None:
            return ("forward", self.name, self.value(), ())
        value = [block for block in self.blocks if block[0] == label][0][2][at][0]
        return ("forward", self.name, value, self.contents(spot))

    def load_out(self):
        return ("load_out", self.name, self.made_by("load"))

    def store_out(self):
        label, at, spot = self.place_of_some("store")
        paper = () if spot is None or self.rng.random() < 0.3 else self.contents(spot)
        if self.rng.random() < 0.4 or spot is None:
            return ("store_out", self.name, label, at, ("same", paper))
        return ("store_out", self.name, label, at, ("unread", paper, self.unread_labels(spot)))

    def promote(self):
        """New params at all blocks, then, one after another, what contents there are, as far as it still fits."""
        told = [(op[0], told_offsets(self.module, self.function, op[0])) for op in self.ops if op[1] == "alloca"]
        value, offsets = self.rng.choice([pair for pair in told if pair[1] is not None] or [(self.made_by("alloca"), (0,))])
        first = max(self.values) + 1
        rows = {label: [("new", first + len(offsets) * at + k) for k in range(len(offsets))] for at, label in enumerate(self.labels[1:])}

        def step():
            return ("promote", self.name, value, tuple((label, tuple(rows[label])) for label in sorted(rows)))

        contents = [("n", 0)] + [op[3][0] for op in self.ops if op[1] == "store"] + [("v", op[0]) for op in self.ops if op[1] == "load"]
        contents += [("v", entry[1]) for row in rows.values() for entry in row]
        for _ in range(self.rng.choice((0, 5, 25))):
            if rows and offsets:
                label, cell = self.rng.choice(sorted(rows)), self.rng.randrange(len(offsets))
                old = rows[label][cell]
                rows[label][cell] = self.rng.choice(contents)
                if self.rng.random() < 0.95 and type(told_memory(self.module, step())) is int:
                    rows[label][cell] = old
        return step()

    def call_site(self):
        sites = [(block[0], at) for block in self.blocks for at, op in enumerate(block[2]) if op[1] == "call"]
        return self.rng.choice(sites or [(self.label(), 0)])

    def inline(self):
        return ("inline", self.name) + self.call_site()

    def call_out(self):
        quiet = dict(quiet_by_words(self.module))
        sites = [(function[0], block[0], at) for function in self.module[1] for block in function[3] for at, op in enumerate(block[2])
                 if op[1] == "call" and op[2][0] in quiet]
        if sites and self.rng.random() < 0.8:
            return ("call_out",) + self.rng.choice(sites)
        return ("call_out", self.name) + self.call_site()

    def tail_loop(self):
        return ("tail_loop", self.name)

    def result_drop(self):
        return ("result_drop", self.name)

    def param_drop(self):
        return ("param_drop", self.name, self.rng.randrange(max(1, len(self.function[1]))))

    def constant_arg(self):
        at = self.rng.randrange(max(1, len(self.function[1])))
        args = [op[3][at] for function in self.module[1] for block in function[3] for op in block[2] if op[1:3] == ("call", (self.name,)) and at < len(op[3])]
        return ("constant_arg", self.name, at, self.rng.choice(args + [self.operand()]))

    def result_known(self):
        returned = [block[3][1] for block in self.blocks if block[3][0] == "return" and block[3][1] is not None]
        return ("result_known", self.name, self.rng.choice(returned or [self.operand()]))

    def functions_out(self):
        names = [function[0] for function in self.module[1] if function[0] != "main"]
        return ("functions_out", self.some(names))

    def globals_out(self):
        return ("globals_out", self.some([place[0] for place in self.module[0]]))

    def merge(self):
        names = [function[0] for function in self.module[1]]
        pairs = [(one, other) for one in names for other in names if one != "main" and one != other]
        if pairs and self.rng.random() < 0.7:
            return ("merge", (self.rng.choice(pairs),))
        firsts = self.some(names[:-1])
        return ("merge", tuple((one, self.rng.choice(names)) for one in firsts))
