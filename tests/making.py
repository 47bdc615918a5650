"""Functions and modules made by a random source with a seed, for the tests."""

import random

from anypasses.numbers import CASTS, OPS, PREDS, WIDTHS

TYPES = WIDTHS + ("ptr",)


def sources(count, seed=0):
    """So many random sources, each the same whenever the tests run."""
    return [random.Random(f"{seed} {at}") for at in range(count)]


def loose_function(rng):
    """A function of which nothing but its form is asked: doubled labels and values, targets that lead anywhere."""
    count = rng.randint(1, 5)
    labels = [rng.randint(0, 4) for _ in range(count)]

    def target():
        return (rng.choice(labels + [9]), tuple(operand() for _ in range(rng.randint(0, 1))))

    def operand():
        return rng.choice((("v", rng.randint(0, 5)), ("n", 1), ("g", "t")))

    def end():
        return rng.choice((
            ("jump", target()), ("branch", operand(), target(), target()), ("branch", operand(), target(), target()),
            ("return", operand()), ("return", None), ("stop",),
        ))

    def op():
        value = rng.randint(0, 5)
        return rng.choice((
            (value, "bin", ("add", 8), (operand(), operand())), (value, "input", (16,), ()),
            (None, "print", (8,), (operand(),)), (None, "call", ("g",), ()), (value, "call", ("g",), (operand(),)),
        ))

    blocks = []
    for label in labels:
        params = tuple((rng.randint(0, 5), rng.choice((8, "ptr"))) for _ in range(rng.randint(0, 2)))
        blocks.append((label, params, tuple(op() for _ in range(rng.randint(0, 2))), end()))
    return ("f", tuple(rng.choice((8, "ptr")) for _ in range(rng.randint(0, 2))), None, tuple(blocks))


def web_end(rng, labels):
    """An end that leads to some of these labels."""
    if not labels:
        return ("stop",)
    one, other = rng.choice(labels), rng.choice(labels)
    return rng.choice((
        ("jump", (one, ())), ("jump", (one, ())), ("branch", ("n", 1), (one, ()), (other, ())),
        ("branch", ("n", 1), (one, ()), (other, ())), ("branch", ("n", 1), (one, ()), (one, ())), ("return", None),
    ))


def web_function(rng, most=7):
    """A function with unlike labels and targets that are blocks other than the entry."""
    labels = rng.sample(range(30), rng.randint(1, most))
    blocks = tuple((label, (), (), web_end(rng, labels[1:])) for label in labels)
    return ("f", (), None, blocks)


def dominators_by_leaving_out(count, heads):
    """For each reached block index the indices that dominate it, found by leaving each one out."""
    def reached(barred):
        found, waiting = set(), [0]
        while waiting:
            at = waiting.pop()
            if at != barred and at not in found:
                found.add(at)
                waiting.extend(heads[at])
        return found

    lost = {barred: reached(barred) for barred in range(count)}
    return {at: {barred for barred in range(count) if at not in lost[barred]} for at in reached(None)}


class FunctionMaker:
    """Makes one function of an admitted module."""

    most_blocks = 6
    end_words = ("jump", "branch", "branch", "return")

    def op_count(self):
        return self.rng.randint(0, 5)

    def head(self, at, k, count):
        """The index of the block that is the k-th target of the block with this index."""
        return self.rng.randrange(1, count)

    def condition(self, at_hand, ops):
        return self.pick(1, at_hand, ops)

    def __init__(self, rng, name, signatures, places):
        self.rng = rng
        self.name = name
        self.signatures = signatures
        self.places = places
        self.params, self.result = signatures[name]
        self.kinds = dict(enumerate(self.params))
        self.fresh = rng.sample(range(len(self.params), 400), 300)

    def made(self, kind):
        value = self.fresh.pop()
        self.kinds[value] = kind
        return value

    def pick(self, kind, at_hand, ops):
        """Some operand of a type; an alloca is added to the ops if there is no pointer otherwise."""
        fitting = [("v", value) for value in at_hand if self.kinds[value] == kind]
        if kind == "ptr":
            fitting += [("g", name) for name in self.places]
        elif not fitting or self.rng.random() < 0.3:
            return ("n", self.rng.choice((0, 1, 2 ** kind - 1, self.rng.randrange(2 ** kind))))
        if not fitting:
            value = self.made("ptr")
            ops.append((value, "alloca", (self.rng.choice(WIDTHS), self.rng.randint(1, 3)), ()))
            at_hand.append(value)
            return ("v", value)
        return self.rng.choice(fitting)

    def add_op(self, at_hand, ops):
        rng = self.rng
        word = rng.choice(("bin", "bin", "bin", "cmp", "select", "cast", "alloca", "at", "load", "store", "print",
                           "input", "call"))
        width = rng.choice((8, 8, 32, 1, 16, 64))
        wanted, info, kind = [], (width,), width
        if word == "bin":
            wanted, info = [width, width], (rng.choice(OPS), width)
        elif word == "cmp":
            wanted, info, kind = [width, width], (rng.choice(PREDS), width), 1
        elif word == "select":
            kind = rng.choice(TYPES)
            wanted, info = [1, kind, kind], (kind,)
        elif word == "cast":
            small, great = sorted(rng.sample(WIDTHS, 2))
            cast = rng.choice(CASTS)
            info = (cast, great, small) if cast == "trunc" else (cast, small, great)
            wanted, kind = [info[1]], info[2]
        elif word == "alloca":
            info, kind = (width, rng.randint(1, 3)), "ptr"
        elif word == "at":
            wanted, kind = ["ptr", width], "ptr"
        elif word == "load":
            wanted = ["ptr"]
        elif word == "store":
            wanted, kind = [width, "ptr"], None
        elif word == "print":
            wanted, kind = [width], None
        elif word == "call":
            name = rng.choice(sorted(self.signatures))
            wanted, kind = self.signatures[name]
            info = (name,)
        args = tuple(self.pick(one, at_hand, ops) for one in wanted)
        value = None if kind is None else self.made(kind)
        ops.append((value, word, info, args))
        if value is not None:
            at_hand.append(value)

    def block_count(self):
        return self.rng.randint(1, self.most_blocks)

    def shape(self, count):
        """For each block the word of its end, and the indices of the blocks to which it leads."""
        shape = []
        for at in range(count):
            word = self.rng.choice(self.end_words) if count > 1 else self.rng.choice(("return", "stop"))
            shape.append((word, [self.head(at, k, count) for k in range({"jump": 1, "branch": 2}.get(word, 0))]))
        return shape

    def function(self):
        rng = self.rng
        count = self.block_count()
        labels = rng.sample(range(60), count)
        shape = self.shape(count)
        params = [()] + [tuple((self.made(kind), kind) for kind in rng.choices(TYPES, k=rng.randint(0, 2)))
                         for _ in range(count - 1)]
        above = dominators_by_leaving_out(count, [heads for _, heads in shape])
        order = sorted(above, key=lambda at: len(above[at])) + [at for at in range(count) if at not in above]
        made, blocks = {}, {}
        for at in order:
            near = above.get(at, set(made))
            at_hand = list(range(len(self.params))) + [value for value, _ in params[at]]
            at_hand += [value for other in sorted(near) if other != at for value in made[other]]
            before = set(at_hand) - {value for value, _ in params[at]}
            ops = []
            for _ in range(self.op_count()):
                self.add_op(at_hand, ops)
            end = self.end(shape[at], labels, params, at_hand, ops)
            made[at] = [value for value in at_hand if value not in before]
            blocks[at] = (labels[at], params[at], tuple(ops), end)
        return (self.name, self.params, self.result, tuple(blocks[at] for at in range(count)))

    def end(self, shape, labels, params, at_hand, ops):
        word, heads = shape
        targets = []
        for head in heads:
            targets.append((labels[head], tuple(self.pick(kind, at_hand, ops) for _, kind in params[head])))
        if word == "jump":
            return ("jump", targets[0])
        if word == "branch":
            return ("branch", self.condition(at_hand, ops), targets[0], targets[1])
        if word == "return":
            return ("return", None if self.result is None else self.pick(self.result, at_hand, ops))
        return ("stop",)


def admitted_module(rng):
    """A module without a fault."""
    places = []
    for name in sorted(rng.sample(["a", "b", "tab"], rng.randint(0, 2))):
        width, size = rng.choice(WIDTHS), rng.randint(1, 4)
        places.append((name, width, size, tuple(rng.randrange(2 ** width) for _ in range(size))))
    signatures = {"main": ((), rng.choice(WIDTHS))}
    for name in rng.sample(["f", "g", "zero"], rng.randint(0, 3)):
        params = tuple(rng.choices(TYPES, k=rng.randint(0, 3)))
        signatures[name] = (params, rng.choice(WIDTHS + (None,)))
    names = [place[0] for place in places]
    functions = [FunctionMaker(rng, name, signatures, names).function() for name in sorted(signatures)]
    return (tuple(places), tuple(functions))
