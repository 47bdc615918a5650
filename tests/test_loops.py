"""[25]: turns and loops."""

import unittest

from anypasses.dominating import dominates
from anypasses.errors import InvalidQuestion
from anypasses.loops import loop_ends, loops_of, turns_of
from making import sources, web_function
from webs_oracle import NO_LABELS, Web, function_of


class Loops(unittest.TestCase):
    def test_within_one_another(self):
        some = function_of({0: (1,), 1: (2, 9), 2: (3,), 3: (2, 4), 4: (1,), 9: ()})
        self.assertEqual(turns_of(some), ((3, 2), (4, 1)))
        self.assertEqual(loops_of(some), ((1, (1, 2, 3, 4)), (2, (2, 3))))
        self.assertEqual(loop_ends(some, 1), ((1, 9),))
        self.assertEqual(loop_ends(some, 2), ((3, 4),))

    def test_side_by_side(self):
        some = function_of({0: (1, 3), 1: (2, 5), 2: (1,), 3: (4, 5), 4: (3,), 5: ()})
        self.assertEqual(turns_of(some), ((2, 1), (4, 3)))
        self.assertEqual(loops_of(some), ((1, (1, 2)), (3, (3, 4))))
        self.assertEqual(loop_ends(some, 3), ((3, 5),))

    def test_several_turns_to_one_head(self):
        some = function_of({0: (7,), 7: (2, 3), 2: (7, 3), 3: (7, 5), 5: (5, 5)})
        self.assertEqual(turns_of(some), ((2, 7), (3, 7), (5, 5)))
        self.assertEqual(loops_of(some), ((5, (5,)), (7, (2, 3, 7))))
        self.assertEqual(loop_ends(some, 7), ((3, 5),))
        self.assertEqual(loop_ends(some, 5), ())

    def test_rings_that_no_label_dominates(self):
        some = function_of({0: (1, 2), 1: (2,), 2: (1, 3), 3: ()})
        self.assertEqual(turns_of(some), ())
        self.assertEqual(loops_of(some), ())

    def test_what_is_not_reached(self):
        some = function_of({0: (1,), 1: (2, 3), 2: (1,), 3: (), 4: (4,), 5: (2, 1), 6: (5,)})
        self.assertEqual(turns_of(some), ((2, 1),))
        self.assertEqual(loops_of(some), ((1, (1, 2)),))

    def test_an_end_twice(self):
        some = function_of({0: (1,), 1: (1, 2), 2: ()})
        self.assertEqual(loop_ends(some, 1), ((1, 2),))
        some = function_of({0: (1,), 1: (2, 3), 2: (1, 4), 3: (4, 4), 4: ()})
        self.assertEqual(loop_ends(some, 1), ((1, 3), (2, 4)))

    def test_refusals(self):
        some = function_of({1: (2,), 2: (2, 6), 6: (), 9: (9,)})
        for value in NO_LABELS + (1, 6, 9):
            with self.assertRaises(InvalidQuestion) as caught:
                loop_ends(some, value)
            self.assertEqual(caught.exception.at, 0)
        self.assertEqual(loop_ends(some, 2), ((2, 6),))

    def test_against_the_definitions(self):
        for rng in sources(400):
            function = web_function(rng)
            web = Web(function)
            self.assertEqual(turns_of(function), tuple(sorted(web.turns())))
            heads = sorted({head for _, head in web.turns()})
            self.assertEqual(loops_of(function), tuple((head, tuple(sorted(web.loop(head)))) for head in heads))
            for head in heads:
                loop = web.loop(head)
                self.assertEqual(loop_ends(function, head), tuple(sorted(
                    {(label, other) for label in loop for other in web.heads[label] if other not in loop})))
            self.check_facts(function, web)

    def check_facts(self, function, web):
        loops = dict(loops_of(function))
        for head, labels in loops.items():
            self.assertTrue(all(dominates(function, head, label) for label in labels))
            entered = {other for label in web.reached - set(labels) for other in web.heads[label] if other in labels}
            self.assertLessEqual(entered, {head})
            for others in loops.values():
                shared = set(labels) & set(others)
                self.assertTrue(not shared or shared in (set(labels), set(others)))


if __name__ == "__main__":
    unittest.main()
