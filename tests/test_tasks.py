"""Promises 8, 9, 10 and 11; promise 1 as far as tasks reach."""

import copy
import inspect
import unittest

from loopwords import tasks as module
from loopwords.programs import Program
from loopwords.runs import run, round_from
from loopwords.sums import opposite, value
from loopwords.tasks import asked, tasks
from samples import CLEAR, DOWN, NO, SAMPLES, UP, YES, asks, by, fillings, flow, goes, programs, sample, values_on, ways

WORD = ((1, -2), 3)
OTHER = ((0, 1), -1)
THIRD = ((2, 2), -5)
SAY = ("say", WORD)


def heads(program):
    """Each task without its sums."""
    return [task[:5] for task in tasks(program)]


class TestAsked(unittest.TestCase):
    def test_at_a_say_its_word(self):
        program = Program([3, 4], (UP, SAY, ("loop", YES, (), (("say", OTHER),))))
        self.assertEqual(asked(program, (1,)), [WORD])
        self.assertEqual(asked(program, (2, 0, 0)), [OTHER])

    def test_at_a_loop_its_words_and_then_the_boxes(self):
        bounds = [((-1, 0), 0), ((1, 0), -3), ((0, -1), 0), ((0, 1), -4)]
        for words in ((), (WORD,), (OTHER, WORD), (WORD, OTHER, THIRD)):
            program = Program([3, 4], (("loop", YES, words, ()),))
            self.assertEqual(asked(program, (0,)), list(words) + bounds)

    def test_at_a_loop_of_one_box_and_of_three(self):
        self.assertEqual(asked(Program([9], (("loop", ((1,), 0), (), ()),)), (0,)), [((-1,), 0), ((1,), -9)])
        self.assertEqual(asked(Program([1, 0, 2], (("loop", ((1, 0, 0), 0), (((0, 0, 1), 5),), ()),)), (0,)), [
            ((0, 0, 1), 5), ((-1, 0, 0), 0), ((1, 0, 0), -1), ((0, -1, 0), 0), ((0, 1, 0), 0),
            ((0, 0, -1), 0), ((0, 0, 1), -2),
        ])

    def test_at_a_loop_within_others(self):
        program = Program([0, 1], (("if", YES, (), (("loop", YES, (), (("loop", NO, (THIRD,), ()),)),)),))
        bounds = [((-1, 0), 0), ((1, 0), 0), ((0, -1), 0), ((0, 1), -1)]
        self.assertEqual(asked(program, (0, 1, 0)), bounds)
        self.assertEqual(asked(program, (0, 1, 0, 0, 0)), [THIRD] + bounds)

    def test_they_hold_just_where_a_run_does_not_break(self):
        for program in programs():
            for place, (row, _, _) in flow(program)[1].items():
                if row[0] in ("say", "loop"):
                    words = asked(program, place)
                    self.assertEqual(words, asks(program, row))
                    for filling in fillings(program, 2):
                        holds = all(value(word, filling) <= 0 for word in words)
                        self.assertEqual(holds, goes(program, filling, 1, place)[0] != "broken")


class TestTasks(unittest.TestCase):
    def test_none_where_nothing_is_said(self):
        for rows in ((), (UP, DOWN), (("if", WORD, (UP,), ()), CLEAR)):
            self.assertEqual(tasks(Program([3, 4], rows)), [])

    def test_a_say_alone(self):
        self.assertEqual(tasks(Program([3, 4], (SAY,))), [((), (), (0,), 0, 0, [((-1, 2), -2)])])

    def test_a_put_ahead_of_a_say(self):
        program = Program([3, 4], (("put", 0, ((2, 1), 5)), ("put", 1, ((1, 1), 0)), SAY))
        # Box 0 is 2a + b + 5 and box 1 then 2a + 2b + 5, so the word has the value -2a - 3b - 2.
        self.assertEqual(tasks(program), [((), (), (2,), 0, 2, [((2, 3), 3)])])

    def test_the_box_that_is_put_counts_in_its_own_sum(self):
        program = Program([3, 4], (UP, UP, ("put", 0, ((3, 0), 0)), ("say", ((1, 0), 0))))
        self.assertEqual(tasks(program), [((), (), (3,), 0, 3, [((-3, 0), -5)])])

    def test_behind_a_say_its_word_holds(self):
        program = Program([3, 4], (SAY, UP, SAY, ("say", OTHER)))
        self.assertEqual(tasks(program), [
            ((), (), (0,), 0, 0, [opposite(WORD)]),
            ((), (), (2,), 0, 2, [WORD, ((-1, 2), -3)]),
            ((), (), (3,), 0, 3, [WORD, ((1, -2), 4), opposite(OTHER)]),
        ])

    def test_an_if_holding_ahead_of_not_holding(self):
        program = Program([3, 4], (("if", WORD, (SAY,), (UP, ("say", OTHER))), ("say", THIRD)))
        self.assertEqual(tasks(program), [
            ((), (True,), (0, 0, 0), 0, 1, [WORD, opposite(WORD)]),
            ((), (True,), (1,), 0, 2, [WORD, WORD, opposite(THIRD)]),
            ((), (False,), (0, 1, 1), 0, 2, [opposite(WORD), opposite(OTHER)]),
            ((), (False,), (1,), 0, 3, [opposite(WORD), OTHER, ((-2, -2), 4)]),
        ])

    def test_ifs_without_rows_and_within_one_another(self):
        inner = ("if", OTHER, (), (DOWN,))
        program = Program([3, 4], (("if", WORD, (inner,), ()), ("say", ((1, 0), 0))))
        self.assertEqual(tasks(program), [
            ((), (True, True), (1,), 0, 2, [WORD, OTHER, ((-1, 0), 1)]),
            ((), (True, False), (1,), 0, 3, [WORD, opposite(OTHER), ((-1, 0), 2)]),
            ((), (False,), (1,), 0, 1, [opposite(WORD), ((-1, 0), 1)]),
        ])

    def test_an_ifs_word_is_told_over_the_filling_at_the_beginning(self):
        program = Program([3, 4], (UP, ("if", WORD, (), ()), ("say", NO)))
        self.assertEqual(tasks(program), [
            ((), (True,), (2,), 0, 2, [((1, -2), 4), YES]),
            ((), (False,), (2,), 0, 2, [((-1, 2), -3), YES]),
        ])

    def test_a_loop_ends_a_way_and_begins_others(self):
        program = Program([3, 4], (CLEAR, ("loop", WORD, (OTHER,), (UP,)), ("say", THIRD)))
        self.assertEqual(tasks(program), [
            ((), (), (1,), 0, 1, [((0, -1), 2)]),
            ((), (), (1,), 1, 1, [((0, 0), 1)]),
            ((), (), (1,), 2, 1, [((0, 0), 4)]),
            ((), (), (1,), 3, 1, [((0, 1), 1)]),
            ((), (), (1,), 4, 1, [((0, -1), 5)]),
            ((1,), (True,), (1,), 0, 2, [OTHER, WORD, opposite(OTHER)]),
            ((1,), (True,), (1,), 1, 2, [OTHER, WORD, ((1, 0), 2)]),
            ((1,), (True,), (1,), 2, 2, [OTHER, WORD, ((-1, 0), 3)]),
            ((1,), (True,), (1,), 3, 2, [OTHER, WORD, ((0, 1), 1)]),
            ((1,), (True,), (1,), 4, 2, [OTHER, WORD, ((0, -1), 5)]),
            ((1,), (False,), (2,), 0, 1, [OTHER, opposite(WORD), opposite(THIRD)]),
        ])

    def test_the_words_that_a_loop_keeps_come_first_in_order_without_bounds(self):
        program = Program([3, 4], (("loop", NO, (THIRD, OTHER, WORD), ()), UP, SAY))
        told = [task for task in tasks(program) if task[0] == (0,)]
        self.assertEqual(told[-1], (
            (0,), (False,), (2,), 0, 2, [THIRD, OTHER, WORD, opposite(NO), ((-1, 2), -3)]
        ))
        self.assertEqual(len(told), 8)
        self.assertEqual([task[:5] for task in told[:7]], [((0,), (True,), (0,), at, 1) for at in range(7)])

    def test_a_loop_without_rows_leads_to_itself(self):
        program = Program([2], (("loop", ((1,), -1), (), ()),))
        self.assertEqual(heads(program), [
            ((), (), (0,), 0, 0), ((), (), (0,), 1, 0), ((0,), (True,), (0,), 0, 1), ((0,), (True,), (0,), 1, 1),
        ])

    def test_beginnings_in_order(self):
        inner = ("loop", YES, (), (SAY,))
        program = Program([2, 2], (("loop", YES, (), (inner, inner)), ("if", YES, (inner,), (inner,)), inner))
        starts = [()] + program.loops()
        told = [task[0] for task in tasks(program)]
        self.assertEqual(sorted(dict.fromkeys(told)), list(dict.fromkeys(told)))
        self.assertEqual(list(dict.fromkeys(told)), starts)

    def test_nested_loops_and_loops_last_in_rows(self):
        program = sample("a loop last in a loop")
        self.assertEqual(list(dict.fromkeys([task[:3] + (task[4],) for task in tasks(program)])), [
            ((), (), (0,), 0),
            ((0,), (True,), (0, 0, 2), 3),
            ((0,), (False,), (1,), 1),
            ((0, 0, 2), (True,), (0, 0, 2), 2),
            ((0, 0, 2), (False,), (0,), 1),
        ])
        program = sample("a loop last in an if")
        self.assertEqual(list(dict.fromkeys([task[:3] + (task[4],) for task in tasks(program)])), [
            ((), (True,), (0, 0, 0), 1),
            ((), (False,), (0, 1, 1), 2),
            ((0, 0, 0), (True,), (0, 0, 0), 2),
            ((0, 0, 0), (False,), (1,), 1),
            ((0, 1, 1), (True,), (0, 1, 1), 1),
            ((0, 1, 1), (False,), (1,), 1),
        ])

    def test_tops_of_0(self):
        program = sample("tops of 0 at a loop")
        self.assertEqual(
            [task[5] for task in tasks(program)[:4]],
            [[((1, 0), 1)], [((-1, 0), 1)], [((0, 1), 1)], [((0, -1), 1)]],
        )

    def test_the_most_ways_that_a_program_has(self):
        ifs = (("if", WORD, (), ()),) * 11
        told = tasks(Program([9, 9], ifs + (SAY,)))
        self.assertEqual(len(told), 2 ** 11)
        self.assertEqual([task[1] for task in told], sorted([task[1] for task in told], reverse=True))
        self.assertEqual(len(tasks(Program([9, 9, 9], (("loop", ((1, 0, 0), 0), (), (
            (("if", ((1, 1, 1), 0), (), ()),) * 11
        )),)))), 6 + 6 * 2 ** 11)


class TestManyTasks(unittest.TestCase):
    def test_heads_in_order(self):
        for program in programs():
            expected = []
            for start, truths, place, steps in ways(program):
                # Of a round its loop is the first of the steps.
                for number in range(len(asks(program, flow(program)[1][place][0]))):
                    expected.append((start, truths, place, number, len(steps)))
            self.assertEqual(heads(program), expected)

    def test_the_values_of_the_sums(self):
        for program in programs():
            told = iter(tasks(program))
            beyond = fillings(program, 1)[::3] + [[100] * len(program.tops), [-10 ** 30] * len(program.tops)]
            for way in ways(program):
                for number in range(len(asks(program, flow(program)[1][way[2]][0]))):
                    sums = next(told)[5]
                    for filling in beyond:
                        held = [by(one, filling) for one in sums]
                        self.assertEqual(held, values_on(program, way, number, filling))

    def test_a_filling_breaks_a_task_just_where_the_run_goes_this_way_and_breaks_there(self):
        for program in programs()[:120]:
            rows = flow(program)[1]
            broken = {}
            for start, truths, place, number, many, sums in tasks(program):
                for filling in fillings(program):
                    if all(value(one, filling) <= 0 for one in sums):
                        told = self.gone(program, start, filling, many + 1)
                        self.assertEqual(told[:2], ("broken", place))
                        self.assertGreater(value(asked(program, place)[number], told[2]), 0)
                        self.assertEqual(self.gone(program, start, filling, many)[:2], ("long", place))
                        broken[start, tuple(filling), number] = place
            for start in [()] + program.loops():
                for filling in fillings(program):
                    if start != () and goes(program, filling, 1, start)[0] == "broken":
                        continue
                    self.ahead_of_the_next_loop(program, rows, start, filling, broken)

    def gone(self, program, start, filling, most):
        return run(program, filling, most) if start == () else round_from(program, start, filling, most)

    def ahead_of_the_next_loop(self, program, rows, start, filling, broken):
        """Where a run breaks no later than at the first loop behind its beginning, it breaks the tasks there."""
        for most in range(0 if start == () else 1, 14):
            told = self.gone(program, start, filling, most)
            if told[0] == "long" and rows[told[1]][0][0] == "loop":
                told = self.gone(program, start, filling, most + 1)
                break
            if told[0] != "long":
                break
        for number in range(9):
            place = broken.get((start, tuple(filling), number))
            words = asked(program, told[1]) if told[0] == "broken" else []
            breaks = number < len(words) and value(words[number], told[2]) > 0
            self.assertEqual(place, told[1] if breaks else None)


class TestOwnership(unittest.TestCase):
    def test_what_is_told_is_the_askers_own(self):
        for name in SAMPLES:
            program = sample(name)
            told = tasks(program)
            whole = copy.deepcopy(told)
            for task in told:
                task[5].append("more")
                task[5][0] = None
            told.clear()
            self.assertEqual(tasks(program), whole)

    def test_no_two_tasks_share_their_sums(self):
        for name in SAMPLES:
            told = tasks(sample(name))
            self.assertEqual(len({id(task[5]) for task in told}), len(told))

    def test_asked_is_the_askers_own(self):
        program = Program([3, 4], (("loop", WORD, (OTHER,), ()), SAY))
        for place in ((0,), (1,)):
            told = asked(program, place)
            whole = list(told)
            told.clear()
            self.assertEqual(asked(program, place), whole)
        self.assertEqual(program.rows, (("loop", WORD, (OTHER,), ()), SAY))

    def test_what_was_told_is_not_changed_by_what_is_asked_later(self):
        program = sample("two boxes in step")
        told, words = tasks(program), asked(program, (2,))
        whole, all_words = copy.deepcopy(told), list(words)
        tasks(program).clear()
        tasks(sample("three boxes"))
        asked(program, (2,)).clear()
        self.assertEqual((told, words), (whole, all_words))

    def test_tops_handed_in_may_change_later(self):
        tops = [3, 4]
        program = Program(tops, (("loop", WORD, (), ()),))
        before = tasks(program)
        tops[0] = 7
        tops.clear()
        self.assertEqual(tasks(program), before)
        self.assertEqual(asked(program, (0,)), [((-1, 0), 0), ((1, 0), -3), ((0, -1), 0), ((0, 1), -4)])

    def test_kinds_of_what_is_told(self):
        for name in SAMPLES:
            program = sample(name)
            told = tasks(program)
            self.assertIs(type(told), list)
            for task in told:
                self.assertEqual([type(part) for part in task], [tuple, tuple, tuple, int, int, list])
                self.assertEqual({type(truth) for truth in task[1]} - {bool}, set())
                self.assertIs(type(asked(program, task[2])), list)
                for numbers, last in task[5]:
                    self.assertEqual((type(numbers), type(last)), (tuple, int))
                    self.assertEqual(len(numbers), len(program.tops))


class TestInterface(unittest.TestCase):
    def test_names_and_arguments(self):
        for function, names in ((asked, ["program", "place"]), (tasks, ["program"])):
            self.assertEqual(list(inspect.signature(function).parameters), names)
            self.assertEqual(function.__module__, module.__name__)


if __name__ == "__main__":
    unittest.main()
