"""Ops that do nothing but tell a value ([30])."""

from anypasses.numbers import bin_told, cast_told, cmp_told

DIVISIONS = ("udiv", "sdiv", "urem", "srem")


def is_division(op):
    return op[1] == "bin" and op[2][0] in DIVISIONS


def is_pure(op):
    """Whether an op is pure: a division is so only by a number other than 0."""
    if is_division(op):
        word, number = op[3][1]
        return word == "n" and number != 0
    return op[1] in ("bin", "cmp", "select", "cast", "at")


def folded(op):
    """The number that a pure op tells all args of which are numbers; None for all other ops."""
    if not is_pure(op) or not all([word == "n" for word, _ in op[3]]):
        return None
    _, kind, info, args = op
    numbers = [number for _, number in args]
    if kind == "bin":
        return bin_told(info[0], info[1], numbers[0], numbers[1])
    if kind == "cmp":
        return cmp_told(info[0], info[1], numbers[0], numbers[1])
    if kind == "cast":
        return cast_told(info[0], info[1], info[2], numbers[0])
    return numbers[1] if numbers[0] == 1 else numbers[2]
