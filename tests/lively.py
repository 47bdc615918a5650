"""Modules in which many steps fit, for the tests."""

from anypasses.numbers import OPS, PREDS
from making import FunctionMaker

BITS = (1, 8)


class LivelyMaker(FunctionMaker):
    """Makes a function with few widths, few numbers, small objects, many equal ops and some blocks without ops."""

    most_blocks = 7
    end_words = ("jump", "jump", "branch", "branch", "branch", "return")

    def op_count(self):
        return 0 if self.rng.random() < 0.35 else self.rng.randint(1, 5)

    def head(self, at, k, count):
        near = min(count - 1, 2 * at + 1 + k if self.rng.random() < 0.6 else at + 1)
        return near if self.rng.random() < 0.75 else self.rng.randrange(1, count)

    def condition(self, at_hand, ops):
        if self.rng.random() < 0.4:
            return self.pick(1, at_hand, ops)
        value = self.made(1)
        args = (self.pick(8, at_hand, ops), self.pick(8, at_hand, ops))
        ops.append((value, "cmp", (self.rng.choice(("eq", "ne", "ult", "slt")), 8), args))
        at_hand.append(value)
        return ("v", value)

    def pick(self, kind, at_hand, ops):
        rng = self.rng
        if kind in BITS and rng.random() < 0.35:
            return ("n", rng.choice((0, 1) if kind == 1 else (0, 1, 1, 2, 3, 8, 255)))
        fitting = [("v", value) for value in at_hand if self.kinds[value] == kind]
        if kind == "ptr" and fitting and rng.random() < 0.8:
            return rng.choice(fitting)
        return FunctionMaker.pick(self, kind, at_hand, ops)

    def alloca(self, at_hand, ops):
        value = self.made("ptr")
        ops.append((value, "alloca", (8, self.rng.randint(1, 2)), ()))
        at_hand.append(value)

    def add_op(self, at_hand, ops):
        rng = self.rng
        word = rng.choice(("bin", "bin", "bin", "cmp", "cmp", "select", "cast", "alloca", "at", "load", "load", "load", "store",
                           "store", "store", "print", "print", "input", "call", "call", "again", "again"))
        width = 8
        if word == "again" and ops:
            old = rng.choice(ops)
            if old[0] is not None and self.kinds[old[0]] is not None:
                value = self.made(self.kinds[old[0]])
                ops.append((value,) + old[1:])
                at_hand.append(value)
                return
        if word == "alloca" or word == "again":
            self.alloca(at_hand, ops)
            return
        if word == "call":
            name = rng.choice(sorted(self.signatures))
            wanted, kind = self.signatures[name]
            info = (name,)
        else:
            wanted, info, kind = {
                "bin": ([width, width], (rng.choice(OPS), width), width),
                "cmp": ([width, width], (rng.choice(PREDS), width), 1),
                "select": ([1, width, width], (width,), width),
                "cast": rng.choice((([1], (rng.choice(("zext", "sext")), 1, 8), 8), ([8], ("trunc", 8, 1), 1))),
                "at": (["ptr", 8], (8,), "ptr"), "load": (["ptr"], (8,), 8), "store": ([8, "ptr"], (8,), None),
                "print": ([8], (8,), None), "input": ([], (8,), 8),
            }[word]
            if word in ("bin", "cmp") and rng.random() < 0.15:
                wanted, info = [1, 1], (info[0], 1)
                kind = 1
        args = [self.pick(one, at_hand, ops) for one in wanted]
        if word == "at" and rng.random() < 0.8:
            args[1] = ("n", rng.choice((0, 1, 1, 2, 255)))
        value = None if kind is None else self.made(kind)
        ops.append((value, word, info, tuple(args)))
        if value is not None:
            at_hand.append(value)


def lively_module(rng):
    """A module without a fault, in which many steps fit."""
    places = [("tab", 8, 2, (3, 200))] if rng.random() < 0.5 else []
    signatures = {"main": ((), 8)}
    for name in rng.sample(["f", "g"], rng.randint(0, 2)):
        signatures[name] = (tuple(rng.choices((8, 8, 1, "ptr"), k=rng.randint(0, 2))), rng.choice((8, 8, None)))
    functions = [LivelyMaker(rng, name, signatures, [place[0] for place in places]).function() for name in sorted(signatures)]
    return (tuple(places), tuple(functions))
