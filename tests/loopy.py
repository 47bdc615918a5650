"""Modules with loops within one another, side by side, tested at the beginning and at the end, for the tests."""

from lively import LivelyMaker


class LoopyMaker(LivelyMaker):
    """Makes a function of pieces: straight ones, branches that meet again, loops; some ends lead elsewhere."""

    most_pieces = 3
    depth = 2
    twist = 0.25

    def op_count(self):
        return 0 if self.rng.random() < 0.3 else self.rng.randint(1, 4)

    def block_count(self):
        while True:
            self.ends = []
            last = self.row(self.depth, self.new())
            self.ends[last] = ("return", [])
            if len(self.ends) <= 40:
                break
        for at in range(len(self.ends)):
            word, heads = self.ends[at]
            if len(self.ends) > 1 and word != "return" and self.rng.random() < self.twist / 3:
                self.ends[at] = ("branch", [heads[0], self.rng.randrange(1, len(self.ends))])
        return len(self.ends)

    def shape(self, count):
        return self.ends

    def new(self):
        self.ends.append(None)
        return len(self.ends) - 1

    def row(self, depth, start):
        """Pieces one behind the other, from an open block on; returns the open block at their end."""
        for _ in range(self.rng.randint(1, self.most_pieces)):
            start = self.piece(depth, start)
        return start

    def branch(self, start, one, other):
        heads = [one, other]
        self.rng.shuffle(heads)
        self.ends[start] = ("branch", heads)

    def piece(self, depth, start):
        word = self.rng.choice(("plain", "if", "while", "while", "do", "one")) if depth else "plain"
        if word == "plain":
            goal = self.new()
            self.ends[start] = ("jump", [goal])
            return goal
        if word == "if":
            one, goal = self.new(), self.new()
            self.branch(start, one, goal)
            self.ends[self.row(depth - 1, one)] = ("jump", [goal])
            return goal
        if word == "while":
            head, body, goal = self.new(), self.new(), self.new()
            self.ends[start] = ("jump", [head])
            self.branch(head, body, goal)
            self.ends[self.row(depth - 1, body)] = ("jump", [head])
            return goal
        body, goal = self.new(), self.new()
        self.ends[start] = ("jump", [body])
        self.branch(self.row(depth - 1, body) if word == "do" else body, body, goal)
        return goal


def loopy_module(rng):
    """A module without a fault, with loops in its functions."""
    places = [("tab", 8, 2, (3, 200))] if rng.random() < 0.5 else []
    signatures = {"main": ((), 8)}
    if rng.random() < 0.4:
        signatures["f"] = (tuple(rng.choices((8, 8, 1, "ptr"), k=rng.randint(0, 2))), rng.choice((8, 8, None)))
    functions = [LoopyMaker(rng, name, signatures, [place[0] for place in places]).function() for name in sorted(signatures)]
    return (tuple(places), tuple(functions))
