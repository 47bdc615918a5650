"""A desk at which a build is spoken to in words ([79])."""

from anypasses.builds import Build
from anypasses.errors import InvalidCommand
from anypasses.forms import FIGURES
from anypasses.machine import run_module
from anypasses.rows import is_pass, size_of, still

MOST_FIGURES = 9


def is_number_word(word):
    """Whether a word is a number without leading zeros, and not too long."""
    if word == "" or len(word) > MOST_FIGURES or (word[0] == "0" and word != "0"):
        return False
    return all([sign in FIGURES for sign in word])


def words_of(command):
    """The words of any value, a command."""
    if not isinstance(command, str) or "\n" in command:
        raise InvalidCommand()
    return command.split(" ")


def end_words(end):
    """The words that tell how a run ended."""
    if end is None:
        return ["..."]
    word, told = end
    return ["=" if word == "value" else "!", f"{told}"]


def is_told_right(words):
    """Whether words are a command of one of the known forms."""
    word, others = words[0], words[1:]
    if word == "do":
        return len(others) == 1 and is_pass(others[0])
    if word == "run":
        return len(others) > 0 and all([is_number_word(other) for other in others])
    if word == "still":
        return all([is_pass(other) for other in others])
    return word in ("size", "steps", "undo") and len(others) == 0


def run_text(build, numbers):
    """The text of the run of a build's module with this fuel and these inputs."""
    outputs, end = run_module(build.module(), numbers[1:], numbers[0])
    return " ".join([f"{number}" for number in outputs] + end_words(end))


def told_by(build, words):
    """What a command of a known form tells of a build."""
    word, others = words[0], words[1:]
    if word == "do":
        return str(build.do(others[0]))
    if word == "run":
        return run_text(build, [int(other) for other in others])
    if word == "still":
        return "yes" if still(build.module(), others) else "no"
    if word == "undo":
        return "ok" if build.undo() else "nothing"
    return str(size_of(build.module()) if word == "size" else len(build.paper()))


class Desk:
    """A desk with a build, None as long as no text was loaded."""

    def __init__(self):
        self.build = None

    def load(self, text):
        """Begins with a new build of a text."""
        self.build = Build(text)
        return "ok"

    def say(self, command):
        """Does any value, a command, and tells what comes of it."""
        words = words_of(command)
        if self.build is None or not is_told_right(words):
            raise InvalidCommand()
        return told_by(self.build, words)
