"""A state that goes on in place: in lists and dicts, so that a step takes no copy of what it leaves alone ([17])."""


class Frame:
    """A frame, the values of which are in a dict."""

    def __init__(self, name, block, place, given, base):
        self.name = name
        self.block = block
        self.place = place
        self.given = given
        self.base = base


def frozen_frame(frame):
    """A frame as a state has it."""
    if isinstance(frame, tuple):
        return frame
    given = tuple([(value, frame.given[value]) for value in sorted(frame.given)])
    return (frame.name, frame.block[0], frame.place, given, frame.base)


def thawed_object(thing):
    return None if thing is None else (thing[0], list(thing[1]))


def frozen_object(thing):
    return None if thing is None else (thing[0], tuple(thing[1]))


class Engine:
    """The state of a run of a module.

    `below` has the frames below the one on top, as they stand in a state until they come on top; `living` the numbers
    of the objects that are not gone; `deeds` what the steps that were made here did to the world."""

    def __init__(self, module, state):
        objects, frames, inputs, outputs, end = state
        self.functions = {function[0]: function for function in module[1]}
        self.starts = {place[0]: (at, 0) for at, place in enumerate(module[0])}
        self.blocks = {}
        self.objects = [thawed_object(thing) for thing in objects]
        self.living = [at for at, thing in enumerate(objects) if thing is not None]
        self.below = list(frames[:-1])
        self.top = self.thawed_frame(frames[-1])
        self.inputs = inputs
        self.taken = 0
        self.outputs = list(outputs)
        self.deeds = []
        self.end = end

    def thawed_frame(self, frame):
        """A frame that may go on."""
        if isinstance(frame, Frame):
            return frame
        name, label, place, values, base = frame
        return Frame(name, self.block_of(name, label), place, dict(values), base)

    def block_of(self, name, label):
        """A block of the function with this name."""
        if name not in self.blocks:
            self.blocks[name] = {block[0]: block for block in self.functions[name][3]}
        return self.blocks[name][label]

    def enter(self, name, args):
        """Puts a frame on top."""
        block = self.functions[name][3][0]
        self.below.append(self.top)
        self.top = Frame(name, block, 0, dict(enumerate(args)), len(self.objects))

    def leave(self):
        """Takes the frame on top away, and with it all objects that came since it was made."""
        while len(self.living) > 0 and self.living[-1] >= self.top.base:
            self.objects[self.living.pop()] = None
        self.top = self.thawed_frame(self.below.pop())

    def new_object(self, width, size):
        """Makes an object with cells of 0, and tells the pointer to it."""
        at = len(self.objects)
        self.objects.append((width, [0 for _ in range(size)]))
        self.living.append(at)
        return (at, 0)

    def cells_at(self, pointer, width):
        """The list in which the cell of a pointer stands at its integer; None if there is no such cell of the width."""
        thing = self.objects[pointer[0]]
        if thing is None or thing[0] != width or pointer[1] < 0 or pointer[1] >= len(thing[1]):
            return None
        return thing[1]

    def told_by(self, operand):
        """What an operand is in the frame on top."""
        word, thing = operand
        if word == "v":
            return self.top.given[thing]
        return thing if word == "n" else self.starts[thing]

    def give(self, value, told):
        """Gives a value in the frame on top, and goes behind the op."""
        frame = self.top
        if value is not None:
            frame.given[value] = told
        frame.place += 1

    def depth(self):
        return len(self.below) + 1

    def run(self):
        """The run up to here."""
        return (tuple(self.outputs), self.end)

    def state(self):
        """The state as it is now."""
        objects = tuple([frozen_object(thing) for thing in self.objects])
        frames = tuple([frozen_frame(frame) for frame in self.below] + [frozen_frame(self.top)])
        return (objects, frames, self.inputs[self.taken:], tuple(self.outputs), self.end)
