"""Promise 12: stretches and trees; promise 1 as far as they reach."""

import copy
import inspect
import random
import unittest
from itertools import product

from loopwords import trees
from loopwords.trees import is_tree, tried
from samples import by

HUGE = 10 ** 60


def points(stretch):
    return [list(one) for one in product(*[range(least, most + 1) for least, most in stretch])]


def depth(tree):
    return 0 if tree[0] == "sum" else 1 + max(depth(tree[3]), depth(tree[4]))


def is_tree_by_points(stretch, some, tree):
    """As is_tree, but each filling in a part is looked at."""
    if tree[0] == "sum":
        return 0 <= tree[1] < len(some) and all([by(some[tree[1]], filling) > 0 for filling in points(stretch)])
    _, box, at, below, above = tree
    if not 0 <= box < len(stretch) or not stretch[box][0] <= at <= stretch[box][1] - 1:
        return False
    lower = stretch[:box] + [(stretch[box][0], at)] + stretch[box + 1:]
    upper = stretch[:box] + [(at + 1, stretch[box][1])] + stretch[box + 1:]
    return is_tree_by_points(lower, some, below) and is_tree_by_points(upper, some, above)


def chances():
    """Stretches with sums, made by chance, the same ones each time."""
    chance = random.Random(12)
    for _ in range(2500):
        many = chance.randint(1, 3)
        stretch = []
        for _ in range(many):
            least = chance.randint(-6, 6)
            stretch.append((least, least + chance.choice([0, 0, 1, 1, 2, 3, 6])))
        some = []
        for _ in range(chance.randint(1, 5)):
            numbers = tuple(chance.choice([0, chance.randint(-3, 3), chance.randint(-9, 9)]) for _ in range(many))
            some.append((numbers, chance.randint(-20, 20)))
        yield stretch, some


class Case(unittest.TestCase):
    def assert_tree(self, stretch, some):
        told = tried(stretch, some)
        self.assertIs(type(told), tuple)
        self.assertEqual(len(told), 2)
        tree, filling = told
        self.assertIsNone(filling)
        self.assertIs(type(tree), tuple)
        self.assertIs(is_tree(stretch, some, tree), True)
        return tree

    def assert_filling(self, stretch, some):
        told = tried(stretch, some)
        self.assertIs(type(told), tuple)
        self.assertEqual(len(told), 2)
        tree, filling = told
        self.assertIsNone(tree)
        self.assertIs(type(filling), list)
        self.assertEqual(len(filling), len(stretch))
        for held, (least, most) in zip(filling, stretch):
            self.assertIs(type(held), int)
            self.assertTrue(least <= held <= most)
        self.assertEqual([one for one in some if by(one, filling) > 0], [])
        return filling


class TestTried(Case):
    def test_one_sum_that_holds_nowhere(self):
        self.assertEqual(self.assert_tree([(2, 5)], [((1,), -1)]), ("sum", 0))
        self.assertEqual(self.assert_tree([(2, 5)], [((1,), -3), ((-1,), 6), ((0,), 0)]), ("sum", 1))

    def test_one_sum_that_holds_at_the_edge(self):
        self.assertEqual(self.assert_filling([(2, 5)], [((1,), -2)]), [2])
        self.assertEqual(self.assert_filling([(2, 5)], [((-1,), 5)]), [5])
        self.assertEqual(self.assert_filling([(2, 5), (-3, 3)], [((-1, 1), 8)]), [5, -3])

    def test_value_0_holds_and_1_does_not(self):
        self.assertEqual(self.assert_filling([(3, 3)], [((1,), -3)]), [3])
        self.assertEqual(self.assert_tree([(3, 3)], [((1,), -2)]), ("sum", 0))

    def test_two_sums_that_hold_each_but_not_both(self):
        for at in range(0, 9):
            self.assertEqual(depth(self.assert_tree([(0, 9)], [((1,), -at), ((-1,), at + 1)])), 1)

    def test_two_sums_that_hold_at_just_one_number(self):
        for at in range(-5, 10):
            self.assertEqual(self.assert_filling([(-5, 9)], [((1,), -at), ((-1,), at)]), [at])

    def test_just_one_filling_of_three_boxes(self):
        for least, wanted in product((-2, 0), product(range(3), repeat=3)):
            some = []
            for box, at in enumerate(wanted):
                for sign in (1, -1):
                    some.append((tuple(sign * int(one == box) for one in range(3)), -sign * (at + least)))
            self.assertEqual(
                self.assert_filling([(least, least + 2)] * 3, some), [at + least for at in wanted]
            )
            for without in range(6):
                numbers, last = some[without]
                tighter = some[:without] + [(numbers, last + 1)] + some[without + 1:]
                self.assert_tree([(least, least + 2)] * 3, tighter)

    def test_no_filling_between_two_numbers(self):
        # Between them there is room for fractions alone.
        tree = self.assert_tree([(0, 9), (0, 9)], [((2, 2), -9), ((-2, -2), 9)])
        self.assertTrue(is_tree_by_points([(0, 9), (0, 9)], [((2, 2), -9), ((-2, -2), 9)], tree))
        self.assert_tree([(-9, 9)] * 3, [((6, 4, -8), 1), ((-6, -4, 8), -1)])

    def test_stretches_of_one_filling(self):
        for held in product((-3, 0, 4), repeat=2):
            stretch = [(one, one) for one in held]
            for last in range(-12, 13):
                if 2 * held[0] - held[1] + last <= 0:
                    self.assertEqual(self.assert_filling(stretch, [((2, -1), last)]), list(held))
                else:
                    self.assertEqual(self.assert_tree(stretch, [((2, -1), last)]), ("sum", 0))

    def test_boxes_that_do_not_count(self):
        self.assert_filling([(0, 9), (0, 9)], [((0, 0), 0)])
        self.assertEqual(self.assert_tree([(0, 9), (0, 9)], [((0, 0), 1)]), ("sum", 0))
        self.assertEqual(depth(self.assert_tree([(-HUGE, HUGE), (0, 9)], [((0, 1), -4), ((0, -1), 5)])), 1)

    def test_the_same_sum_many_times(self):
        self.assertEqual(self.assert_filling([(0, 9)], [((-1,), 9)] * 20), [9])
        self.assert_tree([(0, 9)], [((-1,), 9)] * 20 + [((1,), -8)])

    def test_fillings_that_differ_in_one_box_alone(self):
        for box in range(3):
            numbers = tuple(int(one == box) for one in range(3))
            stretch = [(1, 1)] * 3
            stretch[box] = (-1, 1)
            for at in (-1, 0, 1):
                minus = tuple(-one for one in numbers)
                wanted = [1, 1, 1]
                wanted[box] = at
                self.assertEqual(self.assert_filling(stretch, [(numbers, -at), (minus, at)]), wanted)
            twice = tuple(2 * one for one in numbers)
            self.assert_tree(stretch, [(twice, -1), (tuple(-one for one in twice), 1)])

    def test_many_by_chance(self):
        kept = 0
        for stretch, some in chances():
            if any([all([by(one, filling) <= 0 for one in some]) for filling in points(stretch)]):
                self.assert_filling(stretch, some)
            else:
                tree = self.assert_tree(stretch, some)
                self.assertTrue(is_tree_by_points(stretch, some, tree))
                kept += 1
        self.assertGreater(kept, 500)
        self.assertLess(kept, 2000)

    def test_wide_stretches_and_large_numbers(self):
        wide = [(-10 ** 9, 10 ** 9)] * 3
        self.assert_tree(wide, [((1, 0, 0), -600), ((-1, 0, 0), 601)])
        self.assert_tree(wide, [((0, 1, -1), 0), ((1, 0, 0), -600), ((-1, 0, 0), 601)])
        self.assert_tree(wide, [((-1, 0, 0), 10), ((-1, 2, 0), 0), ((0, -1, 0), 6), ((1, 0, 0), -11)])
        self.assert_tree(wide, [((0, 5, -3), 0), ((7, 0, 0), -4204), ((-9, 0, 0), 5402)])
        self.assert_filling(wide, [((-1, 0, 0), 10), ((-1, 2, 0), 0), ((0, -1, 0), 6), ((1, 0, 0), -12)])
        self.assertEqual(self.assert_filling([(0, 9)], [((HUGE,), -4 * HUGE), ((-HUGE,), 4 * HUGE)]), [4])
        self.assert_tree([(0, 9)], [((HUGE,), -4 * HUGE), ((-HUGE,), 4 * HUGE + 1)])

    def test_no_tree_is_deeper_than_halving_the_boxes_makes_it(self):
        for last in (1, 2, 3):
            self.assertLess(depth(self.assert_tree([(0, 4000)] * 2, [((1, -1), last), ((-1, 1), 0)])), 30)


class TestIsTree(Case):
    SOME = [((1, 0), -2), ((-1, 0), 3), ((0, 1), -9)]
    STRETCH = [(0, 5), (-1, 1)]
    TREE = ("cut", 0, 2, ("sum", 1), ("sum", 0))

    def test_a_tree(self):
        self.assertIs(is_tree(self.STRETCH, self.SOME, self.TREE), True)

    def test_the_sum_holds_nowhere_in_the_stretch(self):
        self.assertIs(is_tree([(3, 5), (-1, 1)], self.SOME, ("sum", 0)), True)
        self.assertIs(is_tree([(2, 5), (-1, 1)], self.SOME, ("sum", 0)), False)
        self.assertIs(is_tree([(0, 2), (-1, 1)], self.SOME, ("sum", 1)), True)
        self.assertIs(is_tree([(0, 3), (-1, 1)], self.SOME, ("sum", 1)), False)
        self.assertIs(is_tree([(3, 3), (1, 1)], self.SOME, ("sum", 0)), True)
        self.assertIs(is_tree([(2, 2), (1, 1)], self.SOME, ("sum", 0)), False)
        self.assertIs(is_tree([(-5, -3)], [((-2,), -5)], ("sum", 0)), True)
        self.assertIs(is_tree([(-5, -2)], [((-2,), -5)], ("sum", 0)), False)

    def test_a_sum_of_two_boxes(self):
        self.assertIs(is_tree([(0, 5), (-1, 1)], [((-1, 2), 8)], ("sum", 0)), True)
        self.assertIs(is_tree([(0, 5), (-1, 1)], [((-1, 2), 7)], ("sum", 0)), False)
        self.assertIs(is_tree([(0, 5), (-2, 1)], [((-1, 2), 8)], ("sum", 0)), False)
        self.assertIs(is_tree([(0, 6), (-1, 1)], [((-1, 2), 8)], ("sum", 0)), False)

    def test_no_number_of_a_sum(self):
        stretch, some = [(3, 5), (-1, 1)], self.SOME[:1] * 3
        for number in range(3):
            self.assertIs(is_tree(stretch, some, ("sum", number)), True)
        for number in (-1, -3, 3, 4, HUGE, -HUGE):
            self.assertIs(is_tree(stretch, some, ("sum", number)), False)

    def test_no_number_of_a_box(self):
        for box in (-2, -1, 1, 2, 3, HUGE):
            self.assertIs(is_tree(self.STRETCH, self.SOME, ("cut", box) + self.TREE[2:]), False)
        some, stretch = [((1, 1), 1)], [(0, 5), (0, 5)]
        for box in range(-4, 5):
            tree = ("cut", box, 2, ("sum", 0), ("sum", 0))
            self.assertIs(is_tree(stretch, some, tree), box in (0, 1))

    def test_where_it_may_be_cut(self):
        for least, most in ((0, 5), (-3, 2), (4, 4), (-1, 0)):
            for at in range(least - 3, most + 4):
                tree = ("cut", 0, at, ("sum", 0), ("sum", 0))
                self.assertIs(is_tree([(least, most)], [((0,), 1)], tree), least <= at < most)
        for at in (HUGE, -HUGE):
            self.assertIs(is_tree([(0, 5)], [((0,), 1)], ("cut", 0, at, ("sum", 0), ("sum", 0))), False)

    def test_cut_at_another_number_or_with_parts_the_other_way_round(self):
        for at in (0, 1, 3, 4):
            self.assertIs(is_tree(self.STRETCH, self.SOME, ("cut", 0, at, ("sum", 1), ("sum", 0))), False)
        self.assertIs(is_tree(self.STRETCH, self.SOME, ("cut", 0, 2, ("sum", 0), ("sum", 1))), False)

    def test_each_part_is_looked_at(self):
        for bad in (("sum", 2), ("sum", 7), ("cut", 0, 2, ("sum", 0), ("sum", 0))):
            self.assertIs(is_tree(self.STRETCH, self.SOME, ("cut", 0, 2, bad, ("sum", 0))), False)
            self.assertIs(is_tree(self.STRETCH, self.SOME, ("cut", 0, 2, ("sum", 1), bad)), False)
            deeper = ("cut", 1, 0, ("sum", 1), bad)
            self.assertIs(is_tree(self.STRETCH, self.SOME, ("cut", 0, 2, deeper, ("sum", 0))), False)

    def test_cuts_that_were_not_needed(self):
        tree = ("cut", 1, -1, self.TREE, ("cut", 0, 3, ("cut", 0, 2, ("sum", 1), ("sum", 0)), ("sum", 0)))
        self.assertIs(is_tree(self.STRETCH, self.SOME, tree), True)

    def test_a_part_that_is_already_cut_has_other_bounds(self):
        tree = ("cut", 0, 2, ("cut", 0, 2, ("sum", 1), ("sum", 1)), ("sum", 0))
        self.assertIs(is_tree(self.STRETCH, self.SOME, tree), False)
        tree = ("cut", 0, 2, ("sum", 1), ("cut", 0, 2, ("sum", 0), ("sum", 0)))
        self.assertIs(is_tree(self.STRETCH, self.SOME, tree), False)
        tree = ("cut", 0, 2, ("cut", 0, 1, ("sum", 1), ("sum", 1)), ("cut", 0, 3, ("sum", 0), ("sum", 0)))
        self.assertIs(is_tree(self.STRETCH, self.SOME, tree), True)

    def test_tuples_that_are_no_trees(self):
        good = ("sum", 0)
        stretch, some = [(0, 5)], [((0,), 1)]
        self.assertIs(is_tree(stretch, some, good), True)
        bad = [
            (), ("sum",), ("cut",), ("sum", 0, 0), ("sum", good), ("cut", 0), ("cut", 0, 0), ("cut", 0, 0, good),
            ("cut", 0, 0, good, good, good), ("sum", 0, 0, good, good), (0, "sum"), (0, 0), ("", 0),
            ("cut", 0, 0, good, 0), ("cut", 0, 0, 0, good), ("cut", good, 0, good, good),
            ("cut", 0, good, good, good), ("cut", 0, 0, (), good),
            ("cut", 0, 0, good, ()), (good,), (good, good), ("Sum", 0), ("leaf", 0), ("sum", True), ("sum", False),
            ("cut", False, 0, good, good), ("cut", 0, False, good, good), ("sum", None), ("sum", "0"),
            ("cuts", 0, 0, good, good), ("kept", [good]), (None, None),
            ("cut", 0, 0, None, good), ("cut", 0, 0, good, None),
        ]
        for tree in bad + [None, 0, "sum", ["sum", 0], [], True]:
            self.assertIs(is_tree(stretch, some, tree), False)

    def test_many_by_chance(self):
        chance = random.Random(13)
        count = {True: 0, False: 0}
        for stretch, some in chances():
            tree, _ = tried(stretch, some)
            if tree is not None:
                for _ in range(6):
                    other = self.changed(chance, tree)
                    well = is_tree_by_points(stretch, some, other)
                    self.assertIs(is_tree(stretch, some, other), well)
                    count[well] += 1
        self.assertGreater(count[True], 200)
        self.assertGreater(count[False], 200)

    def changed(self, chance, tree):
        """The tree, or the tree with one number in it changed by one."""
        if tree[0] == "sum":
            return ("sum", tree[1] + chance.choice([-1, 0, 0, 1]))
        _, box, at, below, above = tree
        which = chance.randrange(4)
        if which == 0:
            return ("cut", box, at + chance.choice([-1, 1]), below, above)
        if which == 1:
            return ("cut", box + chance.choice([-1, 1]), at, below, above)
        if which == 2:
            return ("cut", box, at, self.changed(chance, below), above)
        return ("cut", box, at, below, self.changed(chance, above))

    def test_a_very_deep_tree(self):
        tree = ("sum", 0)
        for at in range(20000, 0, -1):
            tree = ("cut", 0, at - 1, ("sum", 0), tree)
        self.assertIs(is_tree([(0, 20000)], [((1,), 1)], tree), True)
        self.assertIs(is_tree([(-1, 20000)], [((1,), 1)], tree), False)
        self.assertIs(is_tree([(0, 19999)], [((1,), 1)], tree), False)


class TestOwnership(unittest.TestCase):
    def cases(self):
        return [
            ([(0, 9), (-2, 2)], [((1, 1), -4), ((-1, -1), 5)]),
            ([(0, 9), (-2, 2)], [((1, 1), -4), ((-1, -1), 4)]),
            ([(3, 3)], [((1,), -2)]),
            ([(3, 3)], [((1,), -3)]),
        ]

    def test_what_was_handed_in_stays(self):
        for stretch, some in self.cases():
            before = copy.deepcopy((stretch, some))
            tree, _ = tried(stretch, some)
            is_tree(stretch, some, tree or ("cut", 0, 3, ("sum", 0), ("sum", 1)))
            self.assertEqual((stretch, some), before)

    def test_it_may_change_later_and_what_is_told_may_be_changed(self):
        for stretch, some in self.cases():
            told = tried(list(stretch), list(some))
            whole = copy.deepcopy(told)
            handed = (list(stretch), list(some))
            again = tried(*handed)
            handed[0].clear()
            handed[1].clear()
            self.assertEqual(again, whole)
            if told[1] is not None:
                told[1].append("more")
            self.assertEqual(tried(stretch, some), whole)


class TestInterface(unittest.TestCase):
    def test_names_and_arguments(self):
        for function, names in ((tried, ["stretch", "some"]), (is_tree, ["stretch", "some", "tree"])):
            self.assertEqual(list(inspect.signature(function).parameters), names)
            self.assertEqual(function.__module__, trees.__name__)


if __name__ == "__main__":
    unittest.main()
