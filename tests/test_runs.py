"""[7], [8]: runs."""

import unittest

from anypasses.runs import agree_so_far, is_beginning, is_run

ENDS = (None, ("value", 0), ("value", 2 ** 70), ("trap", "divide"), ("trap", "index"), ("trap", "input"),
        ("trap", "stop"))
RUNS = [(outputs, end) for outputs in ((), (0,), (1,), (0, 1), (0, 2), (0, 1, 1)) for end in ENDS]


def may_be_cut(one, other):
    """The definition of a beginning, word by word."""
    return one == other or (one[1] is None and list(one[0]) == list(other[0])[:len(one[0])])


class Runs(unittest.TestCase):
    def test_runs(self):
        for run in RUNS:
            self.assertIs(is_run(run), True)

    def test_no_runs(self):
        values = (
            None, 0, "run", (), ((),), ((), None, None), [(), None], ([], None), ([1], None), ((True,), None),
            ((1, False), None), ((-1,), None), ((1.0,), None), (("1",), None), ((None,), None), (((1,),), None),
            ((), False), ((), True), ((), 0), ((), ()), ((), ("value",)), ((), ("value", True)), ((), ("value", -1)),
            ((), ("value", None)), ((), ["value", 0]), ((), ("value", 0, 0)), ((), ("trap", "halt")), ((), ("trap",)),
            ((), ("trap", None)), ((), ("trap", ["stop"])), ((), ("stop", "trap")), ((), ("halt", "stop")), ((), ("stop",)), ((), "stop"),
            ((), (["value"], 0)), (None, None), ("", None), ({}, None), ((), ("value", "0")), ((), ("trap", "Stop")),
        )
        for value in values:
            self.assertIs(is_run(value), False, value)

    def test_beginnings(self):
        for one in RUNS:
            for other in RUNS:
                self.assertIs(is_beginning(one, other), may_be_cut(one, other), (one, other))
                self.assertIs(agree_so_far(one, other), may_be_cut(one, other) or may_be_cut(other, one))

    def test_by_hand(self):
        cut, ended = ((1, 2), None), ((1, 2), ("value", 3))
        self.assertTrue(is_beginning(cut, ended))
        self.assertFalse(is_beginning(ended, cut))
        self.assertTrue(agree_so_far(ended, cut))
        self.assertFalse(agree_so_far(ended, ((1, 2), ("value", 4))))
        self.assertFalse(agree_so_far(ended, ((1, 2), ("trap", "stop"))))
        self.assertFalse(agree_so_far(ended, ((1, 2, 3), None)))
        self.assertFalse(agree_so_far(cut, ((1, 3), None)))

    def test_facts(self):
        for one in RUNS:
            for two in RUNS:
                for three in RUNS:
                    if is_beginning(one, two) and is_beginning(two, three):
                        self.assertTrue(is_beginning(one, three))
                    if is_beginning(one, three) and is_beginning(two, three):
                        self.assertTrue(agree_so_far(one, two))


if __name__ == "__main__":
    unittest.main()
