"""[10]: tokens."""

import unittest

from anypasses.errors import InvalidText
from anypasses.tokens import tokens_of
from making import sources

TOKENS = ("a", "Z9", "_", "define", "007", "$x", "$0", "@t_1", "@9", "(", ")", "[", "]", "{", "}", ",", ":", "=")


class Tokens(unittest.TestCase):
    def refused(self, text, at):
        with self.assertRaises(InvalidText) as caught:
            tokens_of(text)
        self.assertEqual(caught.exception.at, at, repr(text))

    def test_by_hand(self):
        self.assertEqual(tokens_of(""), ())
        self.assertEqual(tokens_of(" \n \n"), ())
        self.assertEqual(tokens_of(" a1_ $b\n@c:=[](){},"), (
            (1, "a1_"), (5, "$b"), (8, "@c"), (10, ":"), (11, "="), (12, "["), (13, "]"), (14, "("), (15, ")"), (16, "{"),
            (17, "}"), (18, ",")))
        self.assertEqual(tokens_of("a$b@c$1$2"), ((0, "a"), (1, "$b"), (3, "@c"), (5, "$1"), (7, "$2")))
        self.assertEqual(tokens_of("ab cd"), ((0, "ab"), (3, "cd")))
        self.assertEqual(tokens_of("7a"), ((0, "7a"),))

    def test_each_alone(self):
        for token in TOKENS:
            self.assertEqual(tokens_of(token), ((0, token),))
            self.assertEqual(tokens_of(f"\n  {token} \n"), ((3, token),))

    def test_rows_with_any_space(self):
        for rng in sources(300):
            text, row = "", []
            for _ in range(rng.randint(0, 12)):
                token = rng.choice(TOKENS)
                needed = row and row[-1][1][-1] not in "()[]{},:=" and token[0] not in "()[]{},:=$@"
                text += "".join(rng.choices(" \n", k=rng.randint(1 if needed else 0, 3)))
                row.append((len(text), token))
                text += token
            self.assertEqual(tokens_of(text), tuple(row))

    def test_first_wrong_sign(self):
        for sign in "!\"#%&'*+-./;<>?\\^`|~\t\r\0\u00a0\u00e4\u0661\u2003":
            for ahead in ("", "a", " ", "$a\n", "@t = "):
                self.refused(ahead + sign, len(ahead))
                self.refused(ahead + sign + " b ; #", len(ahead))

    def test_heads_without_a_word(self):
        self.refused("$", 0)
        self.refused("a @", 2)
        self.refused("$ a", 0)
        self.refused("$\na", 0)
        self.refused("$$a", 0)
        self.refused("$a @$b", 3)
        self.refused("@(", 0)
        self.refused("x$", 1)
        self.refused("@\u00e4", 0)

    def test_no_string(self):
        for value in (None, 0, True, b"a", ["a"], ("a",), {}, 3.5):
            self.refused(value, 0)


if __name__ == "__main__":
    unittest.main()
