"""[47]: papers, and kinds of steps."""

import unittest

from anypasses.call_steps import CALL_WORDS
from anypasses.errors import InvalidQuestion
from anypasses.flow_steps import FLOW_WORDS
from anypasses.memory_steps import MEMORY_WORDS
from anypasses.papers import is_paper, step_kind, step_words
from anypasses.value_steps import VALUE_WORDS

WORDS = ("bend", "call_out", "carry", "constant_arg", "drop", "forward", "functions_out", "globals_out", "inline", "join", "land", "load_out", "merge", "param_drop", "param_out",
         "pick", "promote", "put_in", "result_drop", "result_known", "store_out", "tail_loop", "take_lot", "take_out", "twin", "use", "use_in")
NO_STEPS = ((), (0,), (None,), ("nothing",), ("",), (("use",),), (["use"],), ("Use",), (b"use",), ["use"], "use", None, 0, True, {"use": 1}, ({},), ("use ",))


class Papers(unittest.TestCase):
    def test_words(self):
        self.assertEqual(step_words(), WORDS)

    def test_is_paper(self):
        """Of a step nothing but its word is asked, of the further entries nothing."""
        steps = tuple((word,) for word in WORDS)
        for value in ((), steps, steps[:1], (("use", [], {}, None, 3.5, object),), (("drop",), ("drop", "f", "f")), (("pick", {}),) * 3):
            self.assertIs(is_paper(value), True)
        for value in (None, 0, "", "use", [], [("use",)], {}, ("use",), (("use",), ["use"]), (("use",), None), ((("use",),),)) + tuple((step,) for step in NO_STEPS):
            self.assertIs(is_paper(value), False, value)

    def test_kinds(self):
        for kind, words in (("value", VALUE_WORDS), ("flow", FLOW_WORDS), ("memory", MEMORY_WORDS), ("call", CALL_WORDS)):
            for word in words:
                for step in ((word,), (word, None), (word, [], {}, 7, 8, 9, 10)):
                    self.assertEqual(step_kind(step), kind)
        self.assertEqual(step_kind(("take_lot", "f", ())), "value")
        for value in NO_STEPS:
            with self.assertRaises(InvalidQuestion) as caught:
                step_kind(value)
            self.assertEqual(caught.exception.at, 0)


if __name__ == "__main__":
    unittest.main()
