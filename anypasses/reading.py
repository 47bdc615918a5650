"""Modules and ops read from texts ([12])."""

from anypasses.forms import BOUND, VALUELESS
from anypasses.numbers import OPS, PREDS
from anypasses.tokenrow import TokenRow

END_WORDS = ("jump", "branch", "return", "stop")


def read_operands(row, count):
    """So many operands with commas between them."""
    operands = [row.take_operand()]
    while len(operands) < count:
        row.want(",")
        operands.append(row.take_operand())
    return tuple(operands)


def read_list(row, opening, closing, read_one):
    """What stands between two signs, with commas between, each thing of it read in the same way."""
    row.want(opening)
    if row.took(closing):
        return ()
    things = [read_one(row)]
    while row.took(","):
        things.append(read_one(row))
    row.want(closing)
    return tuple(things)


def read_operand(row):
    return row.take_operand()


def read_args(row):
    """Operands in parentheses."""
    return read_list(row, "(", ")", read_operand)


def read_bin(row, word):
    width = row.take_width()
    return ("bin", (word, width), read_operands(row, 2))


def read_cmp(row, _):
    pred = row.take_word(PREDS)
    width = row.take_width()
    return ("cmp", (pred, width), read_operands(row, 2))


def read_select(row, _):
    kind = row.take_some_type()
    return ("select", (kind,), read_operands(row, 3))


def read_cast(row, word):
    width = row.take_width()
    args = read_operands(row, 1)
    row.want("to")
    return ("cast", (word, width, row.take_width()), args)


def read_alloca(row, _):
    width = row.take_width()
    row.want(",")
    return ("alloca", (width, row.take_number(BOUND)), ())


def read_call(row, _):
    name = row.take_name()
    return ("call", (name,), read_args(row))


def read_input(row, _):
    return ("input", (row.take_width(),), ())


def read_with_one(row, word):
    width = row.take_width()
    return (word, (width,), read_operands(row, 1))


def read_with_two(row, word):
    width = row.take_width()
    return (word, (width,), read_operands(row, 2))


READERS = {
    "cmp": read_cmp, "select": read_select, "zext": read_cast, "sext": read_cast, "trunc": read_cast,
    "alloca": read_alloca, "at": read_with_two, "load": read_with_one, "input": read_input,
    "store": read_with_two, "print": read_with_one, "call": read_call,
}


def is_op_word(word, has_value):
    """Whether a token begins the op that stands behind a value and `=`, or an op without a value."""
    if word in VALUELESS:
        return not has_value
    return word == "call" or (has_value and (word in OPS or word in READERS))


def read_one_op(row):
    """The op that comes next."""
    value = None
    if row.peek().startswith("$"):
        value = row.take_headed("$")
        row.want("=")
    word = row.peek()
    row.take_found(word if is_op_word(word, value is not None) else None)
    reader = READERS.get(word, read_bin)
    kind, info, args = reader(row, word)
    return (value, kind, info, args)


def read_target(row):
    label = row.take_headed("b")
    return (label, read_args(row))


def read_returned(row):
    """What stands behind the word `return`: an operand, or nothing if the next block or the end comes."""
    if row.peek() == "}" or row.peek().startswith("b"):
        return None
    return row.take_operand()


def read_end(row):
    """The ending that comes next; its first token is already known to begin one."""
    word = row.take_word(END_WORDS)
    if word == "jump":
        return ("jump", read_target(row))
    if word == "branch":
        operand = row.take_operand()
        row.want(",")
        first = read_target(row)
        row.want(",")
        return ("branch", operand, first, read_target(row))
    if word == "return":
        return ("return", read_returned(row))
    return ("stop",)


def read_param(row):
    kind = row.take_some_type()
    return (row.take_headed("$"), kind)


def read_block(row):
    label = row.take_headed("b")
    params = read_list(row, "(", ")", read_param)
    row.want(":")
    ops = []
    while row.peek() not in END_WORDS:
        ops.append(read_one_op(row))
    return (label, params, tuple(ops), read_end(row))


def read_global(row, last):
    """A global, the name of which is greater than the last one's."""
    name = row.take_fresh_name(last, ())
    row.want("=")
    row.want("global")
    width = row.take_width()
    cells = read_list(row, "[", "]", lambda cell_row: cell_row.take_number(1 << width))
    return (name, width, len(cells), cells)


def read_some_type(row):
    return row.take_some_type()


def read_function(row, last, barred):
    """A function, the name of which is greater than the last one's, and not among those barred."""
    row.want("define")
    result = None if row.took("void") else row.take_width()
    name = row.take_fresh_name(last, barred)
    params = read_list(row, "(", ")", read_some_type)
    row.want("{")
    blocks = [read_block(row)]
    while not row.took("}"):
        blocks.append(read_block(row))
    return (name, params, result, tuple(blocks))


def read_op(text):
    """The op of any value, a text."""
    row = TokenRow(text)
    op = read_one_op(row)
    row.finish()
    return op


def read_module(text):
    """The module of any value, a text."""
    row = TokenRow(text)
    places = []
    names = {}
    last = None
    while row.peek().startswith("@"):
        places.append(read_global(row, last))
        last = places[-1][0]
        names[last] = True
    functions = []
    last = None
    while row.peek() != "":
        functions.append(read_function(row, last, names))
        last = functions[-1][0]
    row.finish()
    return (tuple(places), tuple(functions))
