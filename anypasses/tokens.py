"""Tokens of a text ([10])."""

from anypasses.errors import InvalidText
from anypasses.forms import WORD_SIGNS

BLANKS = " \n"
WORD_HEADS = "$@"
SIGNS = "()[]{},:="


def word_end(text, at):
    """The index behind the word that begins at this one; this one if there is no word."""
    while at < len(text) and text[at] in WORD_SIGNS:
        at += 1
    return at


def token_end(text, at):
    """The index behind the token that begins at this one; this one if no token begins there."""
    if text[at] in SIGNS:
        return at + 1
    if text[at] not in WORD_HEADS:
        return word_end(text, at)
    end = word_end(text, at + 1)
    return end if end > at + 1 else at


def scanned(text):
    """The pairs (index, token) of a string up to the first sign that belongs to no token, and its index or the length.

    A reader wants the tokens ahead of such a sign, too: one of them may be refused earlier."""
    pairs = []
    at = 0
    while at < len(text):
        if text[at] in BLANKS:
            at += 1
            continue
        end = token_end(text, at)
        if end == at:
            break
        pairs.append((at, text[at:end]))
        at = end
    return tuple(pairs), at


def tokens_of(text):
    """The pairs (index, token) of any value, a text."""
    if not isinstance(text, str):
        raise InvalidText(0)
    pairs, stop = scanned(text)
    if stop < len(text):
        raise InvalidText(stop)
    return pairs
