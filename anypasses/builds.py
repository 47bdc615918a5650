"""A module that is made better deed by deed ([76], [77])."""

from anypasses.admission import admitted
from anypasses.errors import InvalidQuestion
from anypasses.judge import judged, same_runs
from anypasses.papers import is_paper
from anypasses.reading import read_module
from anypasses.rows import is_pass, pass_paper
from anypasses.writing import module_text


class Build:
    """A module as it was read, and the deeds since.

    `deeds` has for each deed that can be undone the module behind it and the paper of all steps up to there."""

    def __init__(self, text):
        self.start = admitted(read_module(text))
        self.deeds = ()

    def __len__(self):
        return len(self.deeds)

    def module(self):
        """The module as it is now."""
        return self.deeds[-1][0] if len(self.deeds) > 0 else self.start

    def first(self):
        """The module as it was read."""
        return self.start

    def paper(self):
        """All steps made since the module was read."""
        return self.deeds[-1][1] if len(self.deeds) > 0 else ()

    def text(self):
        """The text of the module as it is now."""
        return module_text(self.module())

    def do(self, name):
        """Makes the steps of the pass with any value, a name, and tells how many they are."""
        if not is_pass(name):
            raise InvalidQuestion(0)
        return self.judge(pass_paper(self.module(), name))

    def judge(self, paper):
        """Makes the steps of any value, a paper, and tells how many they are."""
        if not is_paper(paper):
            raise InvalidQuestion(0)
        later = judged(self.module(), paper)
        self.deeds = self.deeds + ((later, self.paper() + paper),)
        return len(paper)

    def undo(self):
        """Undoes the last deed; tells whether there was one."""
        there = len(self.deeds) > 0
        self.deeds = self.deeds[:-1]
        return there

    def within(self, work):
        """What `work` tells of this build, or its error; its deeds are undone."""
        kept = self.deeds
        try:
            return work(self)
        finally:
            self.deeds = kept


def checked(build, inputs, fuel):
    """Whether the runs of a build's module as it was read and as it is now agree so far."""
    return same_runs(build.first(), build.module(), inputs, fuel)
