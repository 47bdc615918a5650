"""Rules by which an op tells the same as another one, or as an operand ([31]).

A side of a rule is read as a tree: a tuple of a word and the trees of its args, a letter or a number being a word
without args."""

from anypasses.editing import makers_of
from anypasses.numbers import bin_told

RULES = (
    ("add a 0", "a"), ("sub a 0", "a"), ("sub a a", "0"), ("mul a 0", "0"), ("mul a 1", "a"), ("udiv a 1", "a"),
    ("urem a 1", "0"), ("and a 0", "0"), ("and a -1", "a"), ("and a a", "a"), ("or a 0", "a"), ("or a -1", "-1"),
    ("or a a", "a"), ("xor a 0", "a"), ("xor a a", "0"), ("shl a 0", "a"), ("lshr a 0", "a"), ("ashr a 0", "a"),
    ("eq a a", "1"), ("ne a a", "0"), ("ult a a", "0"), ("ule a a", "1"), ("slt a a", "0"), ("sle a a", "1"),
    ("select 1 a b", "a"), ("select 0 a b", "b"), ("select c a a", "a"), ("select c 1 0", "c"), ("ne a 0", "a"),
    ("eq a 1", "a"), ("add m a", "add a m"), ("mul m a", "mul a m"), ("and m a", "and a m"), ("or m a", "or a m"),
    ("xor m a", "xor a m"), ("eq m a", "eq a m"), ("ne m a", "ne a m"), ("sub a m", "add a SUB 0 m"),
    ("mul a p", "shl a LOG p"), ("udiv a p", "lshr a LOG p"), ("urem a p", "and a SUB p 1"),
    ("add add a m n", "add a ADD m n"), ("mul mul a m n", "mul a MUL m n"), ("and and a m n", "and a AND m n"),
    ("or or a m n", "or a OR m n"), ("xor xor a m n", "xor a XOR m n"), ("sub add a b b", "a"), ("add sub a b b", "a"),
    ("xor xor a b b", "a"), ("and a or a b", "a"), ("or a and a b", "a"), ("eq add a m n", "eq a SUB n m"),
    ("xor eq a b 1", "ne a b"), ("xor ne a b 1", "eq a b"), ("xor ult a b 1", "ule b a"), ("xor ule a b 1", "ult b a"),
    ("xor slt a b 1", "sle b a"), ("xor sle a b 1", "slt b a"), ("trunc zext a", "a"), ("trunc sext a", "a"),
    ("trunc trunc a", "trunc a"), ("zext zext a", "zext a"), ("sext sext a", "sext a"),
)
CALCULATIONS = {"ADD": "add", "SUB": "sub", "MUL": "mul", "AND": "and", "OR": "or", "XOR": "xor"}
CAST_WORDS = ("zext", "sext", "trunc")
LETTERS = ("a", "b", "c", "m", "n", "p")
FIGURES = ("0", "1", "-1")


def args_wanted(word):
    """How many args stand behind a word."""
    if word in LETTERS or word in FIGURES:
        return 0
    if word in CAST_WORDS or word == "LOG":
        return 1
    return 3 if word == "select" else 2


def read_tree(words, at):
    """The tree that begins at an index of a row of words, and the index behind it."""
    word = words[at]
    tree = [word]
    at += 1
    for _ in range(args_wanted(word)):
        arg, at = read_tree(words, at)
        tree.append(arg)
    return tuple(tree), at


def side_tree(text):
    """The tree of a side of a rule."""
    tree, _ = read_tree(text.split(" "), 0)
    return tree


def word_of(op):
    """The word of an op in rules."""
    return op[2][0] if op[1] in ("bin", "cmp", "cast") else op[1]


def arg_kinds(op):
    """The types of the args of an op the word of which a rule may have."""
    _, kind, info, _ = op
    if kind == "select":
        return (1, info[0], info[0])
    return (info[1], info[1]) if kind in ("bin", "cmp") else (info[1],)


def made_kind(op):
    """The type of the value of such an op."""
    if op[1] == "cmp":
        return 1
    return op[2][0] if op[1] == "select" else op[2][-1]


def figure_told(figure, kind):
    """The number of this type that a figure stands for."""
    return (1 << kind) - 1 if figure == "-1" else int(figure)


def is_power(number):
    """Whether a number is a power of two."""
    return number > 0 and number & (number - 1) == 0


def is_letter_for(letter, operand):
    """Whether a letter may stand for an operand."""
    if letter in ("m", "n"):
        return operand[0] == "n"
    return letter != "p" or (operand[0] == "n" and is_power(operand[1]))


class Sides:
    """The ops of a function, set against the sides of rules.

    `letters` has for each letter that is known the operand and the type for which it stands."""

    def __init__(self, function):
        self.makers = makers_of(function)
        self.letters = {}

    def is_arg(self, tree, operand, kind):
        """Whether an operand of this type is what a tree of a left side tells; learns its letters."""
        word = tree[0]
        if word in LETTERS:
            if word not in self.letters and is_letter_for(word, operand):
                self.letters[word] = (operand, kind)
            return self.letters.get(word) == (operand, kind)
        if word in FIGURES:
            return kind != "ptr" and operand == ("n", figure_told(word, kind))
        return operand[0] == "v" and self.is_left(tree, operand[1])

    def is_left(self, tree, value):
        """Whether the op of a value is a tree of a left side."""
        op = self.makers.get(value)
        if op is None or word_of(op) != tree[0]:
            return False
        return all([self.is_arg(part, arg, kind) for part, arg, kind in zip(tree[1:], op[3], arg_kinds(op))])

    def calculated(self, tree, kind):
        """The number of this type that a tree of letters, figures and calculations tells."""
        word = tree[0]
        if word in FIGURES:
            return figure_told(word, kind)
        if word in LETTERS:
            return self.letters[word][0][1]
        if word == "LOG":
            return self.calculated(tree[1], kind).bit_length() - 1
        return bin_told(CALCULATIONS[word], kind, self.calculated(tree[1], kind), self.calculated(tree[2], kind))

    def is_told(self, tree, operand, kind):
        """Whether an operand of this type is what a tree of a right side tells, all letters being known."""
        word = tree[0]
        if word in LETTERS:
            return self.letters[word] == (operand, kind)
        if word in FIGURES or word in CALCULATIONS or word == "LOG":
            return operand == ("n", self.calculated(tree, kind))
        if operand[0] != "v" or operand[1] not in self.makers:
            return False
        op = self.makers[operand[1]]
        if word_of(op) != word or made_kind(op) != kind:
            return False
        return all([self.is_told(part, arg, one) for part, arg, one in zip(tree[1:], op[3], arg_kinds(op))])


def learned(function, k, value):
    """The sides, with the letters known, if the op of a value is the left side of a rule that may be used, or None."""
    left, right = RULES[k]
    sides = Sides(function)
    if not sides.is_left(side_tree(left), value):
        return None
    if right in LETTERS and sides.letters[right][1] != made_kind(sides.makers[value]):
        return None
    return sides


def rule_letters(module, function, k, value):
    """The pairs (letter, operand) with which the op of a value is the left side of a rule, or None."""
    sides = learned(function, k, value)
    if sides is None:
        return None
    return tuple([(letter, sides.letters[letter][0]) for letter in sorted(sides.letters)])


def rule_fits(module, function, k, value, operand):
    """Whether an operand of the type of a value is the right side of a rule the left side of which its op is."""
    sides = learned(function, k, value)
    if sides is None:
        return False
    return sides.is_told(side_tree(RULES[k][1]), operand, made_kind(sides.makers[value]))
