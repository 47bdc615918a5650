"""[22], [23]: ways, and what dominates."""

import unittest

from anypasses.dominating import dominates, is_standing_tree, tree_of, way_around
from anypasses.errors import InvalidQuestion
from anypasses.reading import read_module
from anypasses.webs import (block_at, end_labels, home_of, reached_labels, sources_of, way_to)
from making import sources, web_function
from webs_oracle import NO_LABELS, Web, function_of


class Webs(unittest.TestCase):
    def refused(self, at, ask, *args):
        with self.assertRaises(InvalidQuestion) as caught:
            ask(*args)
        self.assertEqual(caught.exception.at, at)

    def test_end_labels(self):
        for end, labels in ((("jump", (7, ())), (7,)), (("branch", ("n", 1), (9, ()), (2, ())), (9, 2)),
                            (("branch", ("n", 1), (2, ()), (2, ())), (2, 2)), (("return", None), ()), (("return", ("n", 7)), ()),
                            (("stop",), ())):
            self.assertEqual(end_labels(end), labels)

    def test_by_hand(self):
        some = function_of({9: (3, 3), 3: (1, 5), 1: (3,), 5: (), 7: (5, 3), 8: (8,)})
        self.assertEqual(reached_labels(some), (1, 3, 5, 9))
        self.assertEqual(sources_of(some, 3), (1, 7, 9))
        self.assertEqual(sources_of(some, 8), (8,))
        self.assertEqual(sources_of(some, 9), ())
        self.assertEqual(way_to(some, 9), (9,))
        self.assertEqual(way_to(some, 5), (9, 3, 5))
        self.assertIsNone(way_to(some, 7))
        self.assertIsNone(way_to(some, 8))
        self.assertEqual(block_at(some, 1), some[3][2])
        self.assertEqual(tree_of(some), ((1, 3), (3, 9), (5, 3)))

    def test_some_way_of_several(self):
        some = function_of({0: (1, 2), 1: (3,), 2: (3,), 3: (), 4: (3,)})
        self.assertIn(way_to(some, 3), ((0, 1, 3), (0, 2, 3)))
        self.assertEqual(way_around(some, 1, 3), (0, 2, 3))
        self.assertIn(way_around(some, 4, 3), ((0, 1, 3), (0, 2, 3)))

    def test_homes(self):
        function = read_module("""define void @f(i8, ptr) { b5(): $9 = input i8 store i8 1, $1 $7 = input i8 jump b2($7, $9)
            b2(i8 $3, i8 $4): $8 = call @f() stop b4(i8 $20): $21 = input i1 return }""")[1][0]
        for value, home in ((0, (5, -1)), (1, (5, -1)), (9, (5, 0)), (7, (5, 2)), (3, (2, -1)), (4, (2, -1)), (8, (2, 0)), (20, (4, -1)),
                            (21, (4, 0)), (2, None), (5, None), (99, None)):
            self.assertEqual(home_of(function, value), home)

    def test_refusals(self):
        some = function_of({1: (2,), 2: (), 6: (2,)})
        for value in NO_LABELS:
            for ask in (block_at, sources_of, way_to):
                self.refused(0, ask, some, value)
            for ask in (dominates, way_around):
                self.refused(0, ask, some, value, 2)
                self.refused(0, ask, some, value, value)
                self.refused(1, ask, some, 1, value)
                self.refused(1, ask, some, 6, value)

    def test_against_the_definitions(self):
        for rng in sources(300):
            function = web_function(rng)
            web = Web(function)
            self.assertEqual(reached_labels(function), tuple(sorted(web.reached)))
            for label in web.labels:
                self.assertEqual(sources_of(function, label), tuple(sorted(other for other in web.labels if label in web.heads[other])))
                self.check_way(web, way_to(function, label), label, None)
                for other in web.labels:
                    told = web.dominates(other, label)
                    self.assertIs(dominates(function, other, label), told)
                    way = way_around(function, other, label)
                    self.assertEqual(way is None, told)
                    if not told:
                        self.check_way(web, way, label, other)

    def check_way(self, web, way, label, barred):
        shortest = web.distances(barred).get(label)
        if shortest is None:
            self.assertIsNone(way)
            return
        self.assertIs(type(way), tuple)
        self.assertEqual((way[0], way[-1], len(way)), (web.entry, label, shortest + 1))
        self.assertNotIn(barred, way)
        self.assertTrue(all(other in web.heads[one] for one, other in zip(way, way[1:])))

    def test_facts_of_dominating(self):
        for rng in sources(60):
            function = web_function(rng)
            web = Web(function)
            for label in web.labels:
                self.assertTrue(dominates(function, web.entry, label))
                self.assertTrue(dominates(function, label, label))
                if label not in web.reached:
                    self.assertTrue(all(dominates(function, other, label) for other in web.labels))


class Trees(unittest.TestCase):
    def test_trees(self):
        for rng in sources(300):
            function = web_function(rng)
            web = Web(function)
            tree = tree_of(function)
            self.assertEqual([label for label, _ in tree], sorted(web.reached - {web.entry}))
            for label, parent in tree:
                above = {other for other in web.reached if other != label and web.dominates(other, label)}
                self.assertIn(parent, above)
                self.assertTrue(all(web.dominates(other, parent) for other in above))
            self.assertIs(is_standing_tree(function, tree), True)

    def test_trees_spoilt_in_one_place(self):
        standing = fallen = 0
        for rng in sources(300, seed=2):
            function = web_function(rng)
            web = Web(function)
            tree = tree_of(function)
            for at, (label, parent) in enumerate(tree):
                for other in web.labels + [77]:
                    spoilt = tree[:at] + ((label, other),) + tree[at + 1:]
                    told = web.is_standing_tree(spoilt)
                    self.assertIs(is_standing_tree(function, spoilt), told, spoilt)
                    standing, fallen = standing + told, fallen + (not told)
                self.assertIs(is_standing_tree(function, tree[:at] + tree[at + 1:]), False)
                self.assertIs(is_standing_tree(function, tree[:at] + tree[at:at + 1] + tree[at:]), False)
                for pair in ([label, parent], (label,), (label, parent, 0), (True, parent), (label, None), None, (label, float(parent)),
                             (label, [parent]), (str(label), parent), (label, False), (label, str(parent))):
                    self.assertIs(is_standing_tree(function, tree[:at] + (pair,) + tree[at + 1:]), False, pair)
            self.assertIs(is_standing_tree(function, tree + ((99, 0),)), False)
            self.assertIs(is_standing_tree(function, tree + ((web.entry, web.entry),)), False)
            if len(tree) > 1:
                self.assertIs(is_standing_tree(function, tree[::-1]), False)
        self.assertGreater(fallen, 300)
        self.assertGreater(standing, 300)

    def test_lower_trees_stand_too(self):
        """A tree may stand without telling all that dominates."""
        row = function_of({0: (1,), 1: (2,), 2: (3,), 3: ()})
        self.assertTrue(is_standing_tree(row, ((1, 0), (2, 0), (3, 0))))
        self.assertTrue(is_standing_tree(row, ((1, 0), (2, 1), (3, 1))))
        self.assertFalse(is_standing_tree(row, ((1, 0), (2, 1), (3, 3))))
        fork = function_of({0: (1, 2), 1: (3,), 2: (3,), 3: ()})
        self.assertTrue(is_standing_tree(fork, ((1, 0), (2, 0), (3, 0))))
        self.assertFalse(is_standing_tree(fork, ((1, 0), (2, 0), (3, 1))))

    def test_parents_in_rings(self):
        ring = function_of({0: (1,), 1: (2,), 2: (1, 3), 3: ()})
        for tree in (((1, 2), (2, 1), (3, 2)), ((1, 1), (2, 1), (3, 2)), ((1, 0), (2, 3), (3, 2)), ((1, 0), (2, 2), (3, 2)),
                     ((1, 3), (2, 1), (3, 2))):
            self.assertIs(is_standing_tree(ring, tree), False)
        far = function_of({0: (1,), 1: (2,), 2: (3,), 3: (2, 4), 4: ()})
        for tree in (((1, 0), (2, 3), (3, 2), (4, 3)), ((1, 0), (2, 1), (3, 4), (4, 3)), ((1, 0), (2, 1), (3, 2), (4, 4))):
            self.assertIs(is_standing_tree(far, tree), False)

    def test_no_trees(self):
        alone = function_of({5: (), 1: (1,)})
        self.assertEqual(tree_of(alone), ())
        self.assertTrue(is_standing_tree(alone, ()))
        for value in (None, 0, [], {}, "", (5,), ((5, 5),), ((1, 5),), ((1, 1),), [()], ((),)):
            self.assertIs(is_standing_tree(alone, value), False)
        row = function_of({1: (0,), 0: ()})
        self.assertTrue(is_standing_tree(row, ((0, 1),)))
        for value in (((False, 1),), ((0, True),), [(0, 1)], ([0, 1],), ((0, 0),), ((0, 2),), ((0, 1), (1, 1)), ((1, 0),), ()):
            self.assertIs(is_standing_tree(row, value), False)

    def test_many_blocks(self):
        row = function_of({at: (at + 1,) if at < 199 else () for at in range(200)})
        self.assertEqual(tree_of(row), tuple((at, at - 1) for at in range(1, 200)))
        self.assertTrue(is_standing_tree(row, tree_of(row)))
        self.assertEqual(way_to(row, 199), tuple(range(200)))
        back = function_of({0: (199,), **{at: (at - 1, at) if at > 1 else (199,) for at in range(199, 0, -1)}})
        self.assertEqual(tree_of(back), tuple((at, at + 1) for at in range(1, 199)) + ((199, 0),))


if __name__ == "__main__":
    unittest.main()
