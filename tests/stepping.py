"""What the tests of steps have in common: how a step ends, and how the runs of two modules compare."""

from anypasses.admission import module_fault
from anypasses.errors import InvalidStep
from anypasses.forms import is_module
from anypasses.machine import run_module, whole_run
from anypasses.reading import read_module
from anypasses.runs import agree_so_far
from anypasses.writing import module_text
from drawing import Drawer, spoilt
from lively import lively_module
from making import admitted_module, sources

INPUTS = ((), (3,), (1, 2, 200, 0, 5, 9, 1), (0,) * 9, (255, 1, 1, 0, 7) * 3)
FUEL = 150


def admitted_text(text):
    """The module of a text, which must be without a fault."""
    module = read_module(text)
    if module_fault(module) is not None:
        raise ValueError(f"faulty at {module_fault(module)}: {text}")
    return module


def flat(module):
    """The text of a module in one line."""
    return " ".join(module_text(module).split())


def outcome(apply, module, step):
    """The module behind a step, or the number of the entry that does not fit."""
    try:
        return apply(module, step)
    except InvalidStep as error:
        return error.at


class Steps:
    """Checks for a test case of steps that `self.apply` makes."""

    def fits(self, text, step, later):
        """The step leads from one text to another one; both are written with any blanks."""
        module = admitted_text(text)
        new = type(self).apply(module, step)
        self.assertEqual(flat(new), flat(read_module(later)))
        self.sound(module, new)
        return new

    def refused(self, text, step, at):
        self.assertEqual(outcome(type(self).apply, admitted_text(text), step), at, step)

    def sound(self, module, new):
        """The module behind a step is one that is admitted."""
        self.assertTrue(is_module(new))
        self.assertIsNone(module_fault(new))

    def alike(self, module, new, more=2, much=4):
        """The runs of both agree, and if one ends so does the other, with some times the fuel."""
        for inputs in INPUTS:
            for fuel in (7, FUEL):
                one, other = run_module(module, inputs, fuel), run_module(new, inputs, fuel)
                self.assertTrue(agree_so_far(one, other))
            if one[1] is not None:
                self.assertEqual(whole_run(new, inputs, (FUEL + 1) * more)[0], one)
            if other[1] is not None:
                self.assertEqual(whole_run(module, inputs, FUEL * much)[0], other)

    def junk(self, text, step, ats=None):
        """Whatever else stands in the place of an entry, the step is refused there (or where `ats` tells)."""
        module = admitted_text(text)
        self.sound(module, type(self).apply(module, step))
        for value in (None, list(step), step + (0,), step[:-1], (), ("nothing",) + step[1:], (step[0:1],) + step[1:], ([],) + step[1:], "use", 3, {}):
            self.assertEqual(outcome(type(self).apply, module, value), 0, value)
        for at in range(1, len(step)):
            for value in (None, -1, 1.0, True, "", "nothing", [], {}, (), (-1,), (True,), ((),), (("v", 0),), b"", ("v", True), ("n", -1), 10 ** 9):
                if step[at] != value:
                    told = at if ats is None else ats[at]
                    self.assertEqual(outcome(type(self).apply, module, step[:at] + (value,) + step[at + 1:]), told, (at, value))

    def against(self, told, words, count, seed=0, spoil=0.2):
        """Drawn steps end as the words of the document tell; returns how many fit and how many do not, by words."""
        found = {}
        for rng in sources(count, seed=seed):
            module = lively_module(rng) if rng.random() < 0.8 else admitted_module(rng)
            for word in words:
                for _ in range(3):
                    step = Drawer(rng, module).step(word)
                    if rng.random() < spoil:
                        step = spoilt(rng, step)
                    new = outcome(type(self).apply, module, step)
                    self.assertEqual(new, told(module, step), step)
                    at = new if type(new) is int else "fits"
                    found[word, at] = found.get((word, at), 0) + 1
                    if at == "fits":
                        self.sound(module, new)
                        self.drawn(word, module, new)
                        module = new if rng.random() < 0.4 else module
        return found

    def drawn(self, word, module, new):
        """What holds of the modules ahead of a drawn step that fits and behind it."""
        self.alike(module, new)
