"""Texts of ops, endings and modules ([11])."""


def type_text(kind):
    return "ptr" if kind == "ptr" else f"i{kind}"


def operand_text(operand):
    word, thing = operand
    if word == "v":
        return f"${thing}"
    if word == "g":
        return f"@{thing}"
    return f"{thing}"


def list_text(texts):
    return ", ".join(texts)


def args_text(args):
    return list_text([operand_text(arg) for arg in args])


def target_text(target):
    return f"b{target[0]}({args_text(target[1])})"


def info_text(kind, info):
    """What stands ahead of the args of an op, without a blank between."""
    if kind == "bin":
        return f"{info[0]} i{info[1]}"
    if kind == "cmp":
        return f"cmp {info[0]} i{info[1]}"
    if kind == "cast":
        return f"{info[0]} i{info[1]}"
    if kind == "alloca":
        return f"alloca i{info[0]}, {info[1]}"
    return f"{kind} {type_text(info[0])}"


def doing_text(kind, info, args):
    """The text of an op without its value."""
    if kind == "call":
        return f"call @{info[0]}({args_text(args)})"
    text = info_text(kind, info)
    if len(args) > 0:
        text = f"{text} {args_text(args)}"
    return f"{text} to i{info[2]}" if kind == "cast" else text


def op_text(op):
    """The text of an op."""
    value, kind, info, args = op
    text = doing_text(kind, info, args)
    return text if value is None else f"${value} = {text}"


def ending_text(ending):
    """The text of an ending."""
    word = ending[0]
    if word == "jump":
        return f"jump {target_text(ending[1])}"
    if word == "branch":
        return f"branch {operand_text(ending[1])}, {target_text(ending[2])}, {target_text(ending[3])}"
    if word == "return" and ending[1] is not None:
        return f"return {operand_text(ending[1])}"
    return word


def global_line(place):
    name, width, _, cells = place
    cells_text = list_text([str(cell) for cell in cells])
    return f"@{name} = global i{width} [{cells_text}]"


def block_lines(block):
    label, params, ops, end = block
    params_text = list_text([f"{type_text(kind)} ${value}" for value, kind in params])
    lines = [f"b{label}({params_text}):"]
    lines.extend([f"  {op_text(op)}" for op in ops])
    lines.append(f"  {ending_text(end)}")
    return lines


def function_lines(function):
    name, params, result, blocks = function
    result_text = "void" if result is None else type_text(result)
    params_text = list_text([type_text(param) for param in params])
    lines = [f"define {result_text} @{name}({params_text}) {{"]
    for block in blocks:
        lines.extend(block_lines(block))
    lines.append("}")
    return lines


def module_text(module):
    """The text of a module."""
    lines = [global_line(place) for place in module[0]]
    for function in module[1]:
        lines.extend(function_lines(function))
    return "\n".join(lines)
