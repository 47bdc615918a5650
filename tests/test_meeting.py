"""[24]: frontiers and meeting labels."""

import unittest
from itertools import combinations

from anypasses.dominating import tree_of
from anypasses.errors import InvalidQuestion
from anypasses.meeting import frontier, meeting_labels
from making import sources, web_function
from webs_oracle import NO_LABELS, Web, function_of


def least_lot(web, labels):
    """The least of all lots that have what they must have; there is one, as what two such lots share is one, too."""
    must = {label: web.frontier(label) for label in web.labels}
    lots = [set(lot) for count in range(len(web.labels) + 1) for lot in combinations(web.labels, count)]
    fitting = [lot for lot in lots if all(must[label] <= lot for label in set(labels) | lot)]
    return tuple(sorted(set.intersection(*fitting)))


class Meeting(unittest.TestCase):
    def test_by_hand(self):
        some = function_of({0: (1, 2), 1: (3,), 2: (3,), 3: (4, 5), 4: (3,), 5: (), 6: (5,)})
        self.assertEqual([frontier(some, label) for label in range(7)], [(), (3,), (3,), (3,), (3,), (), ()])
        self.assertEqual(meeting_labels(some, (1,)), (3,))
        self.assertEqual(meeting_labels(some, ()), ())
        self.assertEqual(meeting_labels(some, [0, 5, 6]), ())
        chain = function_of({0: (1, 4), 1: (2, 3), 2: (3,), 3: (4,), 4: (5, 6), 5: (6,), 6: ()})
        self.assertEqual(meeting_labels(chain, [2]), (3, 4))
        self.assertEqual(meeting_labels(chain, [5, 2, 2]), (3, 4, 6))
        self.assertEqual(meeting_labels(chain, (2, 5, 5, 2)), (3, 4, 6))

    def test_a_loop_to_itself(self):
        some = function_of({0: (1,), 1: (1, 1), 2: (2, 1)})
        self.assertEqual(frontier(some, 1), (1,))
        self.assertEqual(frontier(some, 2), ())
        self.assertEqual(frontier(some, 0), ())

    def test_what_is_not_reached_is_no_source(self):
        some = function_of({0: (1,), 1: (2,), 2: (), 3: (2,)})
        self.assertEqual(frontier(some, 1), ())

    def test_refusals(self):
        some = function_of({1: (2,), 2: (), 6: (2,)})
        for value in NO_LABELS:
            with self.assertRaises(InvalidQuestion) as caught:
                frontier(some, value)
            self.assertEqual(caught.exception.at, 0)
            for labels, at in (([value], 0), ((1, value), 1), ([6, 1, value, value], 2), ((1, 2, 6, 1, value, 1), 4)):
                with self.assertRaises(InvalidQuestion) as caught:
                    meeting_labels(some, labels)
                self.assertEqual(caught.exception.at, at)
        for value in (None, 1, True, "12", b"12", {1: 2}, {1}):
            with self.assertRaises(InvalidQuestion) as caught:
                meeting_labels(some, value)
            self.assertEqual(caught.exception.at, 0)

    def test_against_the_definitions(self):
        for rng in sources(200):
            function = web_function(rng, most=6)
            web = Web(function)
            for label in web.labels:
                self.assertEqual(frontier(function, label), tuple(sorted(web.frontier(label))))
            for _ in range(4):
                labels = rng.choices(web.labels, k=rng.randint(0, 4))
                told = meeting_labels(function, labels)
                self.assertEqual(told, least_lot(web, labels))
                self.assertEqual(meeting_labels(function, tuple(labels[::-1] + labels)), told)
                self.check_fact(web, dict(tree_of(function)), labels, told)

    def check_fact(self, web, parents, labels, meeting):
        """Between the end of a parent and a label that is no meeting label there is nothing of these on any way."""
        for label in set(parents) - set(meeting):
            parent = parents[label]
            behind = {other for head in web.heads[parent] for other in web.distances(parent, start=head) if head != parent}
            between = {other for other in behind if label in web.distances(parent, start=other)}
            ends = {other for other in between if other != label or any(label in web.heads[last] for last in between)}
            inner = {other for other in ends if other != label}
            self.assertFalse(inner & (set(labels) | set(meeting)), (label, parent))


if __name__ == "__main__":
    unittest.main()
