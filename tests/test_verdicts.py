"""Promises 13 and 14; promise 1 as far as verdicts reach."""

import copy
import inspect
import unittest

from loopwords import verdicts
from loopwords.programs import Program
from loopwords.runs import run, round_from
from loopwords.sums import value
from loopwords.tasks import tasks
from loopwords.trees import is_tree
from loopwords.verdicts import judged, stands
from samples import DOWN, NO, SAMPLES, UP, YES, fillings, goes, programs, sample

KEPT = [
    "no rows", "no rows, tops of 0", "a loop without rows", "a loop alone without rows, never left",
    "counting up to the top", "tops of 0 at a loop", "below nought but not at a loop", "two boxes in step",
    "a loop last in a loop", "a loop last in an if", "a loop in a loop in a loop", "a swap",
]
BROKEN = [
    "a say", "an if without rows", "counting beyond the top", "counting below nought", "tops of 0 left at a loop",
    "two boxes out of step", "an if in an if", "a say that holds what the next one asks", "three boxes",
]


def broken_by(program, task):
    """The fillings within by which all sums of a task hold."""
    return [one for one in fillings(program) if all([value(word, one) <= 0 for word in task[5]])]


def stretch(program):
    return [(0, top) for top in program.tops]


class TestJudged(unittest.TestCase):
    def test_each_sample_is_here(self):
        self.assertEqual(sorted(KEPT + BROKEN), sorted(SAMPLES))

    def test_kept(self):
        for name in KEPT:
            program = sample(name)
            verdict = judged(program)
            self.assertEqual((len(verdict), verdict[0]), (2, "kept"), name)
            told = tasks(program)
            self.assertEqual(len(verdict[1]), len(told))
            for tree, task in zip(verdict[1], told):
                self.assertIs(is_tree(stretch(program), task[5], tree), True)
            self.assertIs(stands(program, verdict), True)

    def test_broken(self):
        for name in BROKEN:
            program = sample(name)
            verdict = judged(program)
            self.assertEqual((len(verdict), verdict[0]), (3, "broken"), name)
            self.assertIn(verdict[2], broken_by(program, tasks(program)[verdict[1]]))
            self.assertIs(stands(program, verdict), True)

    def test_no_tasks_are_kept(self):
        for rows in ((), (UP, DOWN), (("if", YES, (UP,), ()),)):
            self.assertEqual(judged(Program([9, 0], rows)), ("kept", []))

    def test_the_one_filling_that_breaks(self):
        program = Program([3, 2], (("say", ((1, 1), -4)),))
        self.assertEqual(judged(program), ("broken", 0, [3, 2]))
        program = Program([3, 2], (UP, ("if", ((-1, 0), 1), (), ()), ("loop", ((-1, 0), 4), (((-1, -1), 1),), ())))
        self.assertEqual(judged(program), ("broken", 2, [3, judged(program)[2][1]]))

    def test_the_fewest_rows_done_and_not_the_first_task(self):
        # The first task that is broken is that behind three puts, the next one that behind one.
        rows = (("if", ((1, 0), 0), (UP, UP, UP, ("say", NO)), (DOWN, ("say", NO))),)
        verdict = judged(Program([1, 1], rows))
        self.assertEqual(verdict[:2], ("broken", 1))
        self.assertEqual(verdict[2][0], 1)

    def test_a_loops_task_with_fewer_rows_than_the_programs(self):
        rows = (UP, DOWN, UP, ("loop", NO, (((1, 0), -2),), ()), ("say", ((1, 0), -1)))
        program = Program([2, 0], rows)
        verdict = judged(program)
        self.assertEqual(tasks(program)[verdict[1]][:5], ((3,), (False,), (4,), 0, 1))
        self.assertEqual(verdict[2], [2, 0])
        self.assertTrue(broken_by(program, tasks(program)[0]))

    def test_of_several_with_as_many_rows_the_first_one(self):
        program = Program([1, 1], (("if", ((1, 0), 0), (("say", YES),), (("say", NO),)), ("say", NO)))
        self.assertEqual(judged(program)[:2], ("broken", 2))
        program = Program([1, 1], (("if", ((1, 0), 0), (("say", NO),), (("say", NO),)),))
        self.assertEqual(judged(program)[:2], ("broken", 0))
        program = Program([1, 1], (UP, ("loop", NO, (((1, 0), -9), ((1, 0), -1), ((1, 0), 0)), ())))
        self.assertEqual(judged(program), ("broken", 1, [1, judged(program)[2][1]]))

    def test_a_box_above_its_top_or_below_nought_at_a_loop(self):
        loop = ("loop", NO, (), ())
        self.assertEqual(judged(Program([2, 2], (DOWN, loop)))[:2], ("broken", 0))
        self.assertEqual(judged(Program([2, 2], (UP, loop)))[:2], ("broken", 1))
        self.assertEqual(judged(Program([2, 2], (("put", 1, ((0, 1), -1)), loop)))[:2], ("broken", 2))
        self.assertEqual(judged(Program([2, 2], (("put", 1, ((0, 1), 1)), loop)))[:2], ("broken", 3))
        self.assertEqual(judged(Program([2, 2], (UP, DOWN, loop)))[0], "kept")

    def test_a_task_that_no_run_comes_to_may_be_broken(self):
        # Each run leaves the loop at once; a round from another filling does not.
        program = Program([2, 2], (("put", 0, ((0, 0), 0)), ("loop", ((-1, 0), 1), (), (UP,)), ("say", ((1, 0), 0))))
        verdict = judged(program)
        self.assertEqual(tasks(program)[verdict[1]][:5], ((1,), (True,), (1,), 1, 2))
        self.assertEqual(verdict[2][0], 2)
        for filling in fillings(program):
            self.assertEqual(run(program, filling, 99), ("done", [0, filling[1]], 3))

    def test_many_programs(self):
        kept = 0
        for program in programs():
            verdict = judged(program)
            told = tasks(program)
            broken = [(task[4], number) for number, task in enumerate(told) if broken_by(program, task)]
            self.assertIs(stands(program, verdict), True)
            if not broken:
                self.assertEqual((len(verdict), verdict[0], len(verdict[1])), (2, "kept", len(told)))
                kept += 1
            else:
                self.assertEqual((len(verdict), verdict[:2]), (3, ("broken", min(broken)[1])))
                self.assertIn(verdict[2], broken_by(program, told[verdict[1]]))
        self.assertGreater(kept, 60)
        self.assertLess(kept, 240)

    def test_a_large_program(self):
        ifs = []
        for number in range(9):
            ifs.append(("if", ((number - 4, 3 - number % 7, 2 * number - 9), number - 3), (), ()))
        never = (("if", ((4, 6, -8), 1), (("if", ((-4, -6, 8), -1), (("say", ((0, 0, 0), 1)),), ()),), ()),)
        program = Program([9, 9, 9], tuple(ifs) + never)
        verdict = judged(program)
        self.assertEqual((verdict[0], len(verdict[1])), ("kept", 2 ** 9))
        self.assertIs(stands(program, verdict), True)


class TestVerdictsAgreeWithRuns(unittest.TestCase):
    def test_where_the_verdict_is_kept_no_run_breaks(self):
        for program in [sample(name) for name in KEPT] + programs():
            if judged(program)[0] == "kept":
                for filling in fillings(program):
                    self.assertNotEqual(run(program, filling, 10 ** 9)[0], "broken")
                    self.assertNotEqual(goes(program, filling, 300)[0], "broken")
                    for loop in program.loops():
                        if goes(program, filling, 1, loop)[0] != "broken":
                            self.assertNotEqual(round_from(program, loop, filling, 10 ** 9)[0], "broken")

    def test_where_it_is_broken_the_run_or_the_round_goes_this_way_and_breaks_there(self):
        for program in [sample(name) for name in BROKEN] + programs():
            verdict = judged(program)
            if verdict[0] == "broken":
                start, _, place, _, many, _ = tasks(program)[verdict[1]]
                for most, kind in ((many, "long"), (many + 1, "broken"), (99, "broken")):
                    if start == ():
                        told = run(program, verdict[2], most)
                    else:
                        told = round_from(program, start, verdict[2], most)
                    self.assertEqual(told[:2], (kind, place))

    def test_where_a_run_breaks_the_verdict_is_broken(self):
        for program in programs():
            outcomes = [goes(program, filling, 300)[0] for filling in fillings(program)]
            if "broken" in outcomes:
                self.assertEqual(judged(program)[0], "broken")


class TestStands(unittest.TestCase):
    def test_kept_trees_that_are_none(self):
        program = Program([5, 1], (("say", ((1, 0), -5)), UP, ("say", ((-1, 0), 1))))
        verdict = judged(program)
        good = [("sum", 0), ("sum", 1)]
        self.assertEqual(verdict, ("kept", good))
        tree = ("cut", 0, 2, ("sum", 1), ("cut", 1, 0, ("sum", 1), ("sum", 1)))
        self.assertIs(stands(program, ("kept", [good[0], tree])), True)
        bad = [
            [], good[:1], good + good[:1], good[::-1],
            [good[0], ("sum", 0)], [good[0], ("sum", 2)], [("sum", 1), good[1]],
            [good[0], ("cut", 0, 5, good[1], good[1])], [good[0], ("cut", 2, 0, good[1], good[1])],
            [good[0], ("cut", 1, 1, good[1], good[1])], [good[0], ("cut", 0, 99, good[1], good[1])],
        ]
        for trees in bad:
            self.assertIs(stands(program, ("kept", trees)), False)

    def test_kept_needs_the_stretch_up_to_the_tops(self):
        for top in range(10):
            program = Program([top], (("say", ((1,), -5)),))
            self.assertIs(stands(program, ("kept", [("sum", 0)])), top <= 5)
        for top in range(10):
            program = Program([0, top], (("say", ((2, -1), 3)), ("say", ((0, -1), 2))))
            self.assertIs(stands(program, ("kept", [("sum", 0)] * 2)), False)

    def test_kept_without_tasks(self):
        program = Program([2, 2], (UP,))
        self.assertIs(stands(program, ("kept", [])), True)
        self.assertIs(stands(program, ("kept", [("sum", 0)])), False)
        self.assertIs(stands(program, ("broken", 0, [0, 0])), False)

    def test_broken_of_any_task_that_is_broken_by_any_filling_that_breaks_it(self):
        for program in [sample(name) for name in SAMPLES]:
            for number, task in enumerate(tasks(program)):
                breaking = broken_by(program, task)
                for filling in fillings(program, 1):
                    self.assertIs(stands(program, ("broken", number, filling)), filling in breaking)

    def test_no_number_of_a_task(self):
        program = Program([1], (("say", ((0,), 1)), ("say", ((0,), 1))))
        self.assertIs(stands(program, ("broken", 0, [1])), True)
        single = Program([1], (("say", ((0,), 1)),))
        self.assertIs(stands(single, ("broken", 0, [1])), True)
        for number in (-1, -2, 2, 3, 10 ** 60, -10 ** 60, None, True, False, "0", [0]):
            self.assertIs(stands(program, ("broken", number, [1])), False)
            self.assertIs(stands(single, ("broken", number, [1])), False)

    def test_no_filling_that_is_within(self):
        program = Program([1, 2], (("say", ((0, 0), 1)),))
        for filling in fillings(program):
            self.assertIs(stands(program, ("broken", 0, filling)), True)
        bad = [
            [], [0], [0, 0, 0], [2, 0], [0, 3], [-1, 0], [0, -1], [10 ** 60, 0], [0, -10 ** 60], (0, 0), None, 0,
            [True, 0], [0, False], [None, 0],
        ]
        for filling in bad:
            self.assertIs(stands(program, ("broken", 0, filling)), False)

    def test_a_verdict_of_another_program(self):
        one = Program([3], (("say", ((1,), -3)),))
        other = Program([4], (("say", ((1,), -3)),))
        self.assertIs(stands(other, judged(one)), False)
        self.assertIs(stands(one, judged(other)), False)

    def test_what_is_no_verdict(self):
        kept, broken = sample("a swap"), sample("a say")
        trees, found = judged(kept)[1], judged(broken)
        bad = [
            (), ("kept",), ("kept", trees, 0), ("kept", tuple(trees)), ("kept", None), ("broken", trees),
            (trees, "kept"), ["kept", trees], ("Kept", trees), ("", trees), (0, trees), "kept", None, 0, trees, [],
            True,
            ("kept", 0, [0, 0, 0]), ("kept", [trees]), ("kept", dict.fromkeys(trees)),
        ]
        for verdict in bad:
            self.assertIs(stands(kept, verdict), False)
        bad = [
            (), ("broken",), found[:2], found + (0,), list(found), ("Broken",) + found[1:],
            (found[0], found[2], found[1]), ("kept",) + found[1:], ("broken", None, None), ("kept", []),
            ("kept", [("sum", 0)]), None, "broken",
        ]
        self.assertIs(stands(broken, found), True)
        for verdict in bad:
            self.assertIs(stands(broken, verdict), False)


class TestOwnership(unittest.TestCase):
    def test_what_is_told_may_be_changed_and_stays(self):
        for name in KEPT + BROKEN:
            program = sample(name)
            told = judged(program)
            whole = copy.deepcopy(told)
            again = judged(program)
            told[-1].append("more")
            told[-1][0] = None
            self.assertEqual(again, whole)
            self.assertEqual(judged(program), whole)
            self.assertEqual(again, whole)

    def test_what_was_handed_in_stays(self):
        for name in KEPT + BROKEN:
            program = sample(name)
            tops, rows = program.tops, copy.deepcopy(program.rows)
            verdict = judged(program)
            whole = copy.deepcopy(verdict)
            stands(program, verdict)
            self.assertEqual(verdict, whole)
            self.assertEqual((program.tops, program.rows), (tops, rows))
            other = ("broken", 0, [0] * len(tops))
            stands(program, other)
            self.assertEqual(other, ("broken", 0, [0] * len(tops)))

    def test_tops_handed_in_may_change_later(self):
        tops = [5, 1]
        program = Program(tops, (("say", ((1, 0), -5)),))
        tops[0] = 9
        self.assertEqual(judged(program), ("kept", [("sum", 0)]))
        tops.clear()
        self.assertIs(stands(program, ("kept", [("sum", 0)])), True)

    def test_kinds_of_what_is_told(self):
        for name in KEPT + BROKEN:
            told = judged(sample(name))
            kinds = [tuple, str, list] if told[0] == "kept" else [tuple, str, int, list]
            self.assertEqual([type(told)] + [type(part) for part in told], kinds)


class TestInterface(unittest.TestCase):
    def test_names_and_arguments(self):
        for function, names in ((judged, ["program"]), (stands, ["program", "verdict"])):
            self.assertEqual(list(inspect.signature(function).parameters), names)
            self.assertEqual(function.__module__, verdicts.__name__)


if __name__ == "__main__":
    unittest.main()
