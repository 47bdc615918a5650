"""Rules set against ops, and the ops and operands that they tell ([31])."""

from anypasses.numbers import CASTS, OPS
from anypasses.rules import FIGURES, LETTERS, RULES, Sides, figure_told, made_kind, side_tree, word_of


class Rewriter(Sides):
    """The ops of a function, set against the rules, which are found by the first words of their left sides."""

    def __init__(self, function):
        Sides.__init__(self, function)
        self.rules = {}
        for k, (left, right) in enumerate(RULES):
            tree = side_tree(left)
            self.rules.setdefault(tree[0], []).append((k, tree, side_tree(right)))

    def is_let(self, right, op):
        """Whether the value of an op may become what a rule tells: a letter must have its type."""
        return right[0] not in LETTERS or self.letters[right[0]][1] == made_kind(op)

    def found(self, op):
        """The number of the first rule that an op fits, and its right side, the letters being known then; or None."""
        for k, left, right in self.rules.get(word_of(op), []):
            self.letters = {}
            if self.is_left(left, op[0]) and self.is_let(right, op):
                return (k, right)
        return None

    def part_told(self, tree, kind):
        """The operand of this type that a letter, a figure or a calculation of a right side tells."""
        word = tree[0]
        if word in LETTERS:
            return self.letters[word][0]
        return ("n", figure_told(word, kind) if word in FIGURES else self.calculated(tree, kind))

    def operand_told(self, right, op):
        """The operand that a right side tells instead of the value of an op; None if it tells an op."""
        if right[0] in LETTERS or right[0] in FIGURES:
            return self.part_told(right, made_kind(op))
        return None

    def op_told(self, right, op, value):
        """The op for a new value that a right side tells instead of an op."""
        word = right[0]
        made = made_kind(op)
        if word in OPS:
            return (value, "bin", (word, made), tuple([self.part_told(part, made) for part in right[1:]]))
        # Only calculations stand beside letters, and then a letter comes first.
        kind = self.letters[right[1][0]][1]
        args = tuple([self.part_told(part, kind) for part in right[1:]])
        if word in CASTS:
            return (value, "cast", (word, kind, made), args)
        return (value, "cmp", (word, kind), args)
