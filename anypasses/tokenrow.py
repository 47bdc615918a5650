"""A row of tokens that is read from left to right, and refused where it goes wrong ([12])."""

from anypasses.errors import InvalidText
from anypasses.forms import BOUND, is_name
from anypasses.tokens import scanned

WIDTH_WORDS = {"i1": 1, "i8": 8, "i16": 16, "i32": 32, "i64": 64}
MOST_FIGURES = 20


def number_of(figures, bound):
    """The number that is written so, if it is below this bound of at most 2 ** 64, otherwise None."""
    if not figures.isdigit() or (figures[0] == "0" and figures != "0"):
        return None
    # Python refuses to read numbers of some thousand figures; what is longer than this is too great anyway.
    if len(figures) > MOST_FIGURES or int(figures) >= bound:
        return None
    return int(figures)


class TokenRow:
    """The tokens of a text, the place of the next one, and the index where they end.

    Each method that takes a token raises InvalidText at it if it is not what is wanted."""

    def __init__(self, text):
        if not isinstance(text, str):
            raise InvalidText(0)
        self.tokens, self.stop = scanned(text)
        self.place = 0
        self.whole = self.stop == len(text)

    def here(self):
        """The index of the next token, or of where the tokens end."""
        if self.place < len(self.tokens):
            return self.tokens[self.place][0]
        return self.stop

    def peek(self):
        """The next token, or the empty string behind the last one."""
        if self.place < len(self.tokens):
            return self.tokens[self.place][1]
        return ""

    def finish(self):
        """Sees to it that nothing is left."""
        if self.peek() != "" or not self.whole:
            raise InvalidText(self.here())

    def want(self, token):
        """Takes just this token."""
        if self.peek() != token:
            raise InvalidText(self.here())
        self.place += 1

    def took(self, token):
        """Whether this token was the next one; it is taken then."""
        if self.peek() != token:
            return False
        self.place += 1
        return True

    def take_found(self, found):
        """Takes the next token, of which this was made out; None if it is not what is wanted."""
        if found is None:
            raise InvalidText(self.here())
        self.place += 1
        return found

    def take_word(self, words):
        """Takes one of these words."""
        word = self.peek()
        return self.take_found(word if word in words else None)

    def take_number(self, bound):
        """Takes a number below the bound."""
        return self.take_found(number_of(self.peek(), bound))

    def take_headed(self, head):
        """Takes a sign with a number right behind it, and tells the number."""
        token = self.peek()
        return self.take_found(number_of(token[1:], BOUND) if token.startswith(head) else None)

    def take_width(self):
        return self.take_found(WIDTH_WORDS.get(self.peek()))

    def take_some_type(self):
        return self.take_found("ptr" if self.peek() == "ptr" else WIDTH_WORDS.get(self.peek()))

    def take_name(self):
        """Takes `@` with a name behind it, and tells the name."""
        token = self.peek()
        return self.take_found(token[1:] if token.startswith("@") and is_name(token[1:]) else None)

    def take_fresh_name(self, last, barred):
        """Takes such a name that is greater than the last one (None if there is none) and not among those barred."""
        name = self.peek()[1:]
        if name in barred or (last is not None and name <= last):
            raise InvalidText(self.here())
        return self.take_name()

    def take_operand(self):
        token = self.peek()
        if token.startswith("$"):
            return ("v", self.take_headed("$"))
        if token.startswith("@"):
            return ("g", self.take_name())
        return ("n", self.take_number(BOUND))
