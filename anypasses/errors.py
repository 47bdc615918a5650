"""The errors that this package raises ([4])."""


class PassError(ValueError):
    """What all errors of this package derive from."""


class InvalidText(PassError):
    """A text that no module, or no op, has."""

    def __init__(self, at):
        self.at = at


class InvalidModule(PassError):
    """A module that is not admitted."""

    def __init__(self, at):
        self.at = at


class InvalidStep(PassError):
    """A step that does not fit."""

    def __init__(self, at):
        self.at = at


class InvalidQuestion(PassError):
    """An argument about which nothing can be told."""

    def __init__(self, at):
        self.at = at


class Refused(PassError):
    """What is asked for in good form, but cannot be done."""

    def __init__(self, at):
        self.at = at


class InvalidCommand(PassError):
    """A command that a desk does not know."""
