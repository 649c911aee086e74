"""The second half of promise 5, promises 6 and 7; promise 1 as far as runs reach."""

import copy
import inspect
import unittest

from loopwords import runs
from loopwords.errors import BadFilling, BadProgram, LoopError, NoLoop
from loopwords.programs import Program
from loopwords.runs import behind, run, round_from
from samples import CLEAR, DOWN, NO, UP, YES, fillings, flow, goes, programs, sample

HUGE = 10 ** 60
SAY = ("say", YES)


class Hostile:
    """Answers no question that Python itself puts to it."""

    def __eq__(self, other):
        raise RuntimeError("asked")

    __hash__ = None

    def __len__(self):
        raise RuntimeError("asked")

    __iter__ = __bool__ = __int__ = __index__ = __len__


class TestBehind(unittest.TestCase):
    def test_the_next_row_and_none_at_the_end(self):
        program = Program([1, 1], (SAY, UP, ("if", YES, (), ()), ("loop", NO, (), ())))
        self.assertEqual([behind(program, (at,)) for at in range(4)], [(1,), (2,), (3,), None])

    def test_one_row_alone(self):
        for row in (SAY, UP, ("if", YES, (), ()), ("loop", YES, (), ())):
            self.assertIsNone(behind(Program([1, 1], (row,)), (0,)))

    def test_the_end_of_an_ifs_rows(self):
        program = Program([1, 1], (("if", YES, (SAY, UP), (SAY, UP, SAY)), SAY))
        self.assertEqual(behind(program, (0, 0, 0)), (0, 0, 1))
        self.assertEqual(behind(program, (0, 0, 1)), (1,))
        self.assertEqual(behind(program, (0, 1, 0)), (0, 1, 1))
        self.assertEqual(behind(program, (0, 1, 1)), (0, 1, 2))
        self.assertEqual(behind(program, (0, 1, 2)), (1,))
        self.assertEqual(behind(program, (0,)), (1,))

    def test_the_end_of_an_ifs_rows_at_the_programs_end(self):
        program = Program([1, 1], (("if", YES, (SAY,), (SAY,)),))
        self.assertIsNone(behind(program, (0, 0, 0)))
        self.assertIsNone(behind(program, (0, 1, 0)))

    def test_the_end_of_a_loops_rows_is_the_loop(self):
        program = Program([1, 1], (("loop", YES, (), (SAY, UP)), SAY))
        self.assertEqual(behind(program, (0, 0, 0)), (0, 0, 1))
        self.assertEqual(behind(program, (0, 0, 1)), (0,))
        self.assertEqual(behind(program, (0,)), (1,))

    def test_a_loop_last_in_a_loop_and_in_an_if(self):
        loop = ("loop", YES, (), (SAY,))
        program = Program([1, 1], (("loop", YES, (), (UP, loop)), ("if", YES, (loop,), (loop,)), SAY))
        self.assertEqual(behind(program, (0, 0, 1, 0, 0)), (0, 0, 1))
        self.assertEqual(behind(program, (0, 0, 1)), (0,))
        self.assertEqual(behind(program, (0,)), (1,))
        self.assertEqual(behind(program, (1, 0, 0, 0, 0)), (1, 0, 0))
        self.assertEqual(behind(program, (1, 0, 0)), (2,))
        self.assertEqual(behind(program, (1, 1, 0)), (2,))

    def test_ends_of_ifs_within_one_another(self):
        inner = ("if", YES, (("if", NO, (), (SAY,)),), ())
        program = Program([1, 1], (("if", YES, (), (inner,)), ("loop", YES, (), (inner,))))
        self.assertEqual(behind(program, (0, 1, 0, 0, 0, 1, 0)), (1,))
        self.assertEqual(behind(program, (0, 1, 0, 0, 0)), (1,))
        self.assertEqual(behind(program, (1, 0, 0, 0, 0, 1, 0)), (1,))
        self.assertEqual(behind(program, (1, 0, 0)), (1,))
        self.assertIsNone(behind(program, (1,)))

    def test_each_place_of_many_programs(self):
        for program in programs():
            for place, (row, then, otherwise) in flow(program)[1].items():
                if row[0] in ("put", "say", "loop"):
                    self.assertEqual(behind(program, place), otherwise)


class TestRun(unittest.TestCase):
    def test_puts_and_says(self):
        program = Program([1, 1], (("put", 0, ((1, 2), 3)), ("put", 1, ((1, 0), -9)), ("say", ((1, 0), -8))))
        self.assertEqual(run(program, [1, 2], 9), ("done", [8, -1], 3))
        self.assertEqual(run(program, [2, 2], 9), ("broken", (2,), [9, 0]))

    def test_an_if(self):
        program = Program([9, 9], (("if", ((1, -1), 0), (UP, UP), (("put", 1, ((0, 0), 7)),)), DOWN))
        self.assertEqual(run(program, [2, 2], 9), ("done", [3, 2], 4))
        self.assertEqual(run(program, [3, 2], 9), ("done", [2, 7], 3))

    def test_a_loop_counts_each_time_that_it_is_come_to(self):
        program = sample("counting up to the top")
        # The put, three times the loop and its row, the loop once more, the say.
        self.assertEqual(run(program, [2, 1], 99), ("done", [3, 1], 9))

    def test_without_rows(self):
        for most in (0, 1, 5):
            self.assertEqual(run(sample("no rows"), [7], most), ("done", [7], 0))

    def test_an_if_and_a_loop_without_rows(self):
        self.assertEqual(run(Program([1], (("if", ((1,), 0), (), ()),)), [0], 9), ("done", [0], 1))
        self.assertEqual(run(Program([1], (("if", ((1,), 0), (), ()),)), [1], 9), ("done", [1], 1))
        program = Program([1], (("loop", ((1,), 0), (), ()),))
        self.assertEqual(run(program, [1], 9), ("done", [1], 1))
        self.assertEqual(run(program, [0], 9), ("long", (0,), [0]))

    def test_an_if_without_first_or_second_rows(self):
        program = Program([1, 1], (("if", ((1, 0), 0), (), (CLEAR,)), ("if", ((0, 1), 0), (UP,), ()), SAY))
        self.assertEqual(run(program, [0, 0], 9), ("done", [1, 0], 4))
        self.assertEqual(run(program, [1, 1], 9), ("done", [0, 1], 4))

    def test_let_no_row_it_looks_at_nothing(self):
        for row in (("say", NO), ("loop", YES, (NO,), ()), UP):
            self.assertEqual(run(Program([1, 1], (row,)), [0, 5], 0), ("long", (0,), [0, 5]))

    def test_let_just_as_many_as_it_needs(self):
        program = sample("counting up to the top")
        self.assertEqual(run(program, [2, 1], 9), ("done", [3, 1], 9))
        self.assertEqual(run(program, [2, 1], 8), ("long", (2,), [3, 1]))
        self.assertEqual(run(program, [2, 1], 1), ("long", (1,), [0, 1]))
        self.assertEqual(run(program, [2, 1], 2), ("long", (1, 0, 0), [0, 1]))
        self.assertEqual(run(program, [2, 1], 3), ("long", (1,), [1, 1]))

    def test_the_row_at_which_it_breaks_is_not_done(self):
        program = Program([1, 1], (UP, ("say", NO), UP))
        self.assertEqual(run(program, [0, 0], 1), ("long", (1,), [1, 0]))
        self.assertEqual(run(program, [0, 0], 2), ("broken", (1,), [1, 0]))

    def test_a_break_at_the_first_look_at_a_loop(self):
        program = Program([3, 3], (("loop", NO, (((1, 0), -2), ((0, 1), -1)), ()),))
        self.assertEqual(run(program, [2, 1], 9), ("done", [2, 1], 1))
        self.assertEqual(run(program, [3, 1], 9), ("broken", (0,), [3, 1]))
        self.assertEqual(run(program, [2, 2], 9), ("broken", (0,), [2, 2]))

    def test_a_break_at_a_later_look_at_a_loop(self):
        program = Program([9, 3], (("loop", ((1, 0), -5), (((1, 1), -4),), (UP,)),))
        self.assertEqual(run(program, [2, 1], 99), ("broken", (0,), [4, 1]))
        self.assertEqual(run(program, [2, 1], 4), ("long", (0,), [4, 1]))
        self.assertEqual(run(program, [4, 0], 99), ("broken", (0,), [5, 0]))
        self.assertEqual(run(program, [6, 0], 99), ("broken", (0,), [6, 0]))

    def test_a_break_where_the_loop_would_be_left(self):
        program = Program([9, 3], (("loop", ((1, 0), -1), (((1, 0), -1),), (UP,)),))
        self.assertEqual(run(program, [0, 0], 99), ("broken", (0,), [2, 0]))

    def test_a_box_below_nought_or_above_its_top_at_a_loop(self):
        self.assertEqual(run(sample("counting beyond the top"), [0, 0], 99), ("broken", (1,), [4, 0]))
        self.assertEqual(run(sample("counting below nought"), [1, 1], 99), ("broken", (0,), [-1, 1]))
        self.assertEqual(run(sample("tops of 0 left at a loop"), [0, 0], 99), ("broken", (0,), [1, 0]))
        program = Program([2, 0], (("loop", NO, (), ()),))
        for filling in ([3, 0], [-1, 0], [0, 1], [0, -1], [HUGE, 0]):
            self.assertEqual(run(program, filling, 99), ("broken", (0,), filling))
        for filling in ([0, 0], [2, 0]):
            self.assertEqual(run(program, filling, 99), ("done", filling, 1))

    def test_a_box_below_nought_or_above_its_top_elsewhere(self):
        rows = (DOWN, SAY, ("if", ((1, 0), 0), (SAY,), (SAY,)), UP, ("loop", NO, (), ()), UP, UP, UP, SAY)
        program = Program([2, 2], rows)
        self.assertEqual(run(program, [0, 0], 99), ("done", [3, 0], 10))
        self.assertEqual(run(program, [2, 0], 99), ("done", [5, 0], 10))
        self.assertEqual(run(program, [0, 3], 99), ("broken", (4,), [0, 3]))

    def test_a_run_may_begin_with_any_filling(self):
        program = Program([2, 2], (UP, SAY))
        self.assertEqual(run(program, [-5, 40], 99), ("done", [-4, 40], 2))
        self.assertEqual(run(program, [HUGE, -HUGE], 99), ("done", [HUGE + 1, -HUGE], 2))

    def test_a_loop_last_in_a_loop_and_in_an_if(self):
        # Twice the loop, put, put, three times the inner loop and twice its row; the loop once more and the say.
        self.assertEqual(run(sample("a loop last in a loop"), [0, 0], 99), ("done", [2, 0], 18))
        self.assertEqual(run(sample("a loop last in an if"), [0, 1], 99), ("done", [2, 1], 7))
        self.assertEqual(run(sample("a loop last in an if"), [2, 1], 99), ("done", [1, 1], 4))
        self.assertEqual(run(sample("a loop last in an if"), [4, 3], 99), ("broken", (0, 1, 1), [3, 3]))

    def test_nested_loops(self):
        program = Program([2, 2], (
            ("loop", ((1, 0), -1), (), (("put", 1, ((0, 0), 0)), ("loop", ((0, 1), -1), (), (
                ("put", 1, ((0, 1), 1)),
            )), UP)),
        ))
        # Twice: the loop, put, the inner loop three times, its row twice, put; then the loop once more.
        self.assertEqual(run(program, [0, 1], 99), ("done", [2, 2], 17))
        self.assertEqual(run(program, [0, 1], 8), ("long", (0,), [1, 2]))

    def test_without_end(self):
        program = Program([2, 2], (SAY, ("loop", YES, (), (("put", 0, ((-1, 0), 2)), SAY))))
        for most in (1, 4, 7, 1 + 6 * HUGE):
            self.assertEqual(run(program, [0, 0], most), ("long", (1,), [2 if most == 4 else 0, 0]))
        for most in (2, 8, 2 + 6 * HUGE):
            self.assertEqual(run(program, [0, 0], most), ("long", (1, 0, 0), [0, 0]))
        for most in (6, 12, 6 * HUGE):
            self.assertEqual(run(program, [0, 0], most), ("long", (1, 0, 1), [0, 0]))

    def test_without_end_after_a_while(self):
        program = Program([9, 1], (
            CLEAR, ("loop", YES, (), (("if", ((1, 0), -6), (UP, UP), (("put", 0, ((0, 0), 5)),)),)),
        ))
        for most in list(range(60)) + [10 ** 4, 10 ** 4 + 1, 10 ** 4 + 2, 10 ** 4 + 3]:
            self.assertEqual(run(program, [0, 0], most), goes(program, [0, 0], most))

    def test_many_programs_from_each_filling(self):
        for program in programs():
            for filling in fillings(program, 1):
                for most in (0, 1, 2, 3, 5, 8, 13, 14, 15, 16, 17, 18, 40, 101):
                    self.assertEqual(run(program, filling, most), goes(program, filling, most))

    def test_what_is_no_filling(self):
        program = Program([2, 2], (SAY,))
        bad = [
            [], [0], [0, 0, 0], (0, 0), [True, 0], [0, False], [0, None], ["0", 0], "00", b"00", None, 0, {},
            {0: 0, 1: 1}, [[0], 0], [0, 0.0], [1.5, 0], [0, Hostile()], Hostile(), range(2), {0, 1}, [0, (0,)],
            ((0, 0), 0),
        ]
        for thing in bad:
            for most in (0, 9):
                with self.assertRaises(BadFilling) as caught:
                    run(program, thing, most)
                self.assertIsInstance(caught.exception, LoopError)
                self.assertNotIsInstance(caught.exception, (BadProgram, NoLoop))
        for thing in ([], [0, 0], None, [True]):
            with self.assertRaises(BadFilling):
                run(Program([2], ()), thing, 0)


class TestRound(unittest.TestCase):
    LOOPS = ((CLEAR, ("loop", ((1, 0), -2), (((0, 1), -1),), (UP, ("loop", NO, (((1, -1), -1),), ()))), ("say", YES)))

    def test_it_begins_at_the_loop_which_counts_one(self):
        program = Program([3, 2], self.LOOPS)
        self.assertEqual(round_from(program, (1,), [1, 1], 0), ("long", (1,), [1, 1]))
        self.assertEqual(round_from(program, (1,), [1, 1], 1), ("long", (1, 0, 0), [1, 1]))
        self.assertEqual(round_from(program, (1,), [1, 1], 2), ("long", (1, 0, 1), [2, 1]))
        self.assertEqual(round_from(program, (1,), [3, 1], 9), ("done", [3, 1], 2))
        self.assertEqual(round_from(program, (1,), [1, 1], 9), ("broken", (1, 0, 1), [3, 1]))

    def test_from_an_inner_loop(self):
        program = Program([3, 2], self.LOOPS)
        self.assertEqual(round_from(program, (1, 0, 1), [3, 2], 1), ("long", (1,), [3, 2]))
        self.assertEqual(round_from(program, (1, 0, 1), [3, 2], 9), ("broken", (1,), [3, 2]))
        self.assertEqual(round_from(program, (1, 0, 1), [2, 1], 9), ("broken", (1, 0, 1), [3, 1]))

    def test_a_loop_without_rows_comes_to_itself(self):
        program = Program([1], (("loop", ((1,), 0), (), ()),))
        self.assertEqual(round_from(program, (0,), [0], 3), ("long", (0,), [0]))
        self.assertEqual(round_from(program, (0,), [0], HUGE), ("long", (0,), [0]))
        self.assertEqual(round_from(program, (0,), [1], 3), ("done", [1], 1))

    def test_what_is_no_loops_place(self):
        program = Program([3, 2], self.LOOPS)
        bad = [
            (), (0,), (2,), (3,), (-2,), (-1,), (1, 0), (1, 0, 0), (1, 0, 2), (1, 1, 0), (1, 0, 1, 0), (1, 0, 1, 0, 0),
            (0, 0, 0), (HUGE,), (1, 0, -1), (1, 0, 1, 0, 0, 0, 0),
        ]
        for place in bad:
            with self.assertRaises(NoLoop) as caught:
                round_from(program, place, [0, 0], 9)
            self.assertIsInstance(caught.exception, LoopError)
            self.assertNotIsInstance(caught.exception, (BadProgram, BadFilling))
        things = [
            None, 1, [1], "1", (True,), (True, False, True), (1.0,), (None,), ((1,),), Hostile(), (Hostile(),),
        ]
        for place in things:
            with self.assertRaises(NoLoop):
                round_from(program, place, [0, 0], 9)

    def test_a_program_without_loops(self):
        for rows in ((), (SAY,), (("if", YES, (UP,), ()),)):
            for place in ((), (0,), (0, 0, 0)):
                with self.assertRaises(NoLoop):
                    round_from(Program([1, 1], rows), place, [0, 0], 9)

    def test_no_loop_ahead_of_bad_filling(self):
        program = Program([3, 2], self.LOOPS)
        for place in ((0,), (), (7,)):
            for filling in (None, [0], [True, 0], [9, 9], [0, 2]):
                with self.assertRaises(NoLoop):
                    round_from(program, place, filling, 9)

    def test_what_is_no_filling(self):
        program = Program([3, 2], self.LOOPS)
        bad = [
            None, [], [0], [0, 0, 0], (0, 0), [True, 0], [0, False], ["0", 0], 0, Hostile(), [Hostile(), 0],
        ]
        for filling in bad:
            for place in ((1,), (1, 0, 1)):
                with self.assertRaises(BadFilling) as caught:
                    round_from(program, place, filling, 9)
                self.assertNotIsInstance(caught.exception, (BadProgram, NoLoop))

    def test_fillings_with_which_no_round_begins(self):
        program = Program([3, 2], self.LOOPS)
        for most in (0, 9):
            for filling in ([4, 0], [-1, 0], [0, 3], [0, -1], [0, 2], [HUGE, 0]):
                with self.assertRaises(BadFilling):
                    round_from(program, (1,), filling, most)
            for filling in ([2, 0], [3, 1]):
                with self.assertRaises(BadFilling):
                    round_from(program, (1, 0, 1), filling, most)

    def test_many_programs_from_each_loop_and_filling(self):
        for program in programs():
            for loop in program.loops():
                for filling in fillings(program, 1):
                    # A round begins where a run that comes to the loop with this filling would not break there.
                    if goes(program, filling, 1, loop)[0] == "broken":
                        with self.assertRaises(BadFilling):
                            round_from(program, loop, filling, 1)
                    else:
                        for most in (0, 1, 2, 3, 7, 40, 101):
                            told = round_from(program, loop, filling, most)
                            self.assertEqual(told, goes(program, filling, most, loop))


class TestOwnership(unittest.TestCase):
    def outcomes(self):
        """A call that tells a filling, for each kind of what is told."""
        return [
            (sample("counting up to the top"), [2, 1], 99),
            (sample("counting up to the top"), [2, 1], 0),
            (sample("counting beyond the top"), [2, 1], 99),
            (sample("no rows"), [1], 0),
        ]

    def test_the_filling_handed_in_stays(self):
        for program, filling, most in self.outcomes():
            before = copy.deepcopy(filling)
            rows, tops = copy.deepcopy(program.rows), program.tops
            run(program, filling, most)
            self.assertEqual(filling, before)
            self.assertEqual((program.rows, program.tops), (rows, tops))
        filling = [0, 1]
        round_from(sample("counting up to the top"), (1,), filling, 99)
        self.assertEqual(filling, [0, 1])

    def test_the_filling_handed_in_may_change_later(self):
        for program, filling, most in self.outcomes():
            told = run(program, filling, most)
            before = copy.deepcopy(told)
            filling[0] = 77
            filling.clear()
            self.assertEqual(told, before)
        filling = [0, 1]
        told = round_from(sample("counting up to the top"), (1,), filling, 0)
        filling.clear()
        self.assertEqual(told, ("long", (1,), [0, 1]))

    def test_what_is_told_may_be_changed(self):
        for program, filling, most in self.outcomes():
            told = run(program, filling, most)
            whole = copy.deepcopy(told)
            [part for part in told if isinstance(part, list)][0].append("more")
            self.assertEqual(run(program, filling, most), whole)

    def test_kinds_of_what_is_told(self):
        for program, filling, most in self.outcomes():
            told = run(program, filling, most)
            self.assertIs(type(told), tuple)
            self.assertEqual(len(told), 3)
            if told[0] == "done":
                self.assertEqual([type(part) for part in told], [str, list, int])
            else:
                self.assertEqual([type(part) for part in told], [str, tuple, list])


class TestInterface(unittest.TestCase):
    def test_names_and_arguments(self):
        for function, names in (
            (behind, ["program", "place"]),
            (run, ["program", "filling", "most"]),
            (round_from, ["program", "place", "filling", "most"]),
        ):
            self.assertEqual(list(inspect.signature(function).parameters), names)
            self.assertEqual(function.__module__, runs.__name__)


if __name__ == "__main__":
    unittest.main()
