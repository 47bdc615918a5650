"""[26]: settling."""

import unittest

from anypasses.errors import Refused
from anypasses.settling import settle, unsettled
from making import sources


def greatest(old, new):
    return max(old, new)


def joined(old, new):
    """Lots as ascending tuples."""
    return tuple(sorted(set(old) | set(new)))


def handing(targets, told=lambda point, fact: fact):
    return lambda point, fact: tuple(told(point, fact) for _ in targets[point])


class Settling(unittest.TestCase):
    def refused(self, rounds, *args):
        with self.assertRaises(Refused) as caught:
            settle(*args, rounds)
        self.assertEqual(caught.exception.at, rounds)

    def test_no_points(self):
        self.assertEqual(settle((), (), None, None, 1), ())
        self.refused(0, (), (), None, None)
        self.assertIsNone(unsettled((), (), None, None, ()))

    def test_one_point(self):
        self.assertEqual(settle(((),), (None,), None, greatest, 1), (None,))
        self.assertEqual(settle(((),), (7,), lambda point, fact: (), greatest, 1), (7,))
        self.assertEqual(settle(((0,),), (7,), lambda point, fact: (fact,), greatest, 1), (7,))
        self.assertEqual(settle(((0,),), (0,), lambda point, fact: (min(fact + 1, 3),), greatest, 4), (3,))
        self.refused(3, ((0,),), (0,), lambda point, fact: (min(fact + 1, 3),), greatest)

    def test_facts_of_several_kinds(self):
        targets = ((1,), (2,), (1,), (1,))
        self.assertEqual(settle(targets, ((3,), None, (), None), handing(targets), joined, 5), ((3,), (3,), (3,), None))
        self.assertEqual(settle(targets, ("a", None, None, None), handing(targets), greatest, 5), ("a", "a", "a", None))
        self.assertEqual(settle(targets, (False, None, None, None), handing(targets), greatest, 5), (False, False, False, None))
        self.assertEqual(settle(targets, ((), None, None, None), handing(targets), joined, 5), ((), (), (), None))

    def test_handing_on_nothing(self):
        targets = ((1, 2), (), ())
        step = lambda point, fact: (None, fact + 1) if point == 0 else ()
        self.assertEqual(settle(targets, (4, None, None), step, greatest, 2), (4, None, 5))
        self.assertIsNone(unsettled(targets, (4, None, None), step, greatest, (4, None, 5)))

    def test_a_target_twice(self):
        targets = ((1, 1), ())
        step = lambda point, fact: ((2,), (5,)) if point == 0 else ()
        self.assertEqual(settle(targets, ((), None), step, joined, 2), ((), (2, 5)))
        self.assertEqual(unsettled(targets, ((), None), step, joined, ((), (2,))), (0, 2))
        self.assertEqual(unsettled(targets, ((), None), step, joined, ((), (5,))), (0, 1))
        self.assertIsNone(unsettled(targets, ((), None), step, joined, ((), (1, 2, 5))))

    def test_rounds_just_enough(self):
        """A row handed on against the order takes a round for each point, and one in which nothing changes."""
        for count in range(1, 8):
            targets = tuple((point - 1,) if point else () for point in range(count))
            starts = (None,) * (count - 1) + (9,)
            self.assertEqual(settle(targets, starts, handing(targets), greatest, count), (9,) * count)
            self.refused(count - 1, targets, starts, handing(targets), greatest)

    def test_in_order_one_round_does(self):
        targets = ((1,), (2,), (3,), ())
        self.assertEqual(settle(targets, (1, None, None, None), handing(targets), greatest, 2), (1, 1, 1, 1))
        self.refused(1, targets, (1, None, None, None), handing(targets), greatest)

    def test_who_is_asked_and_when(self):
        asked = []
        targets = ((2, 1), (0,), (), (1,))

        def step(point, fact):
            asked.append((point, fact))
            return ((5, 6), (1,), (), (None,))[point]

        self.assertEqual(settle(targets, (0, None, None, 8), step, greatest, 9), (1, 6, 5, 8))
        self.assertEqual(asked, [(0, 0), (1, 6), (2, 5), (3, 8), (0, 1), (1, 6), (2, 5), (3, 8)])

    def test_what_is_joined_in_which_order(self):
        calls = []

        def join(old, new):
            calls.append((old, new))
            return old + new if len(old) < 4 else old

        targets = ((1, 1), ())
        self.assertEqual(settle(targets, ("a", None), lambda point, fact: ("b", "c") if point == 0 else (), join, 9), ("a", "bcbc"))
        self.assertEqual(calls, [("b", "c"), ("bc", "b"), ("bcb", "c"), ("bcbc", "b"), ("bcbc", "c")])

    def test_a_change_for_a_while_counts(self):
        """The second handed fact puts the first one's change back, so no round is without one."""
        targets = ((1, 1), ())
        step = lambda point, fact: ("up", "down") if point == 0 else ()
        join = lambda old, new: {"up": 1, "down": 0}[new]
        self.refused(50, targets, ("x", 0), step, join)

    def test_other_facts_that_are_equal_are_no_change(self):
        targets = ((0,),)
        self.assertEqual(settle(targets, (1,), lambda point, fact: (1.0,), lambda old, new: new, 1), (1,))

    def test_what_does_not_stand(self):
        targets = ((1, 2), (2,), ())
        step = handing(targets)
        starts = (3, None, 5)
        self.assertEqual(settle(targets, starts, step, greatest, 9), (3, 3, 5))
        for facts, told in (((3, 3, 5), None), ((4, 4, 5), None), ((3, 4, 6), None), ((None, 3, 5), (0, 0)), ((2, 3, 5), (0, 0)),
                            ((3, None, 5), (0, 1)), ((3, 2, 5), (0, 1)), ((3, 3, None), (0, 2)), ((6, 6, 5), (0, 2)),
                            ((3, 6, 5), (1, 1)), ((3, 3, 4), (2, 0)), ((2, 2, 2), (0, 0)), ((None, None, None), (0, 0))):
            self.assertEqual(unsettled(targets, starts, step, greatest, facts), told, facts)
        self.assertEqual(unsettled(targets, (None, None, 5), step, greatest, (None, 7, 4)), (1, 1))
        self.assertEqual(unsettled(targets, (None, None, 5), step, greatest, (None, None, 4)), (2, 0))
        self.assertIsNone(unsettled(targets, (None, None, None), step, greatest, (None, None, None)))

    def test_facts_at_random(self):
        for rng in sources(200):
            count = rng.randint(0, 5)
            targets = tuple(tuple(rng.choices(range(count), k=rng.randint(0, 3))) for _ in range(count))
            starts = tuple(rng.choice((None, (), (rng.randint(0, 3),))) for _ in range(count))
            more = {(point, at): rng.choice((None, (), (rng.randint(0, 3),))) for point in range(count) for at in range(3)}

            def step(point, fact):
                return tuple(None if more[point, at] is None else joined(fact, more[point, at])
                             for at, _ in enumerate(targets[point]))

            facts = settle(targets, starts, step, joined, count * 6 + 1)
            self.assertIs(type(facts), tuple)
            self.assertIsNone(unsettled(targets, starts, step, joined, facts))
            for _ in range(30):
                other = tuple(rng.choice((fact, None, (), (0, 1), (0, 1, 2, 3))) for fact in facts)
                if unsettled(targets, starts, step, joined, other) is None:
                    for one, wide in zip(facts, other):
                        self.assertTrue(one is None or joined(wide, one) == wide)


if __name__ == "__main__":
    unittest.main()
