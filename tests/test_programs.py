"""Promises 2, 4 and 5, and of promise 10 the order of loops; promise 1 as far as programs reach."""

import copy
import inspect
import unittest
from itertools import product

from loopwords import programs
from loopwords.errors import BadFilling, BadProgram, LoopError, NoLoop
from loopwords.programs import Program, is_filling, is_within

SUM = ((1, -2), 3)
PUT = ("put", 1, SUM)
SAY = ("say", SUM)
IF = ("if", SUM, (PUT,), (SAY,))
LOOP = ("loop", SUM, (SUM,), (PUT,))

INNER_LOOP = ("loop", ((0, 1), 0), (), (("put", 0, ((0, 0), 7)),))
INNER_IF = ("if", ((1, 1), -3), (SAY, INNER_LOOP), (LOOP,))
OUTER_LOOP = ("loop", ((-1, 0), 1), (SUM, ((0, 0), 0)), (PUT, INNER_IF, INNER_LOOP))
# The four kinds of row, ifs and loops within one another: twelve rows in all.
ROWS = (SAY, OUTER_LOOP, PUT)

# Each row of ROWS at its place.
PLACES = {
    (0,): SAY,
    (1,): OUTER_LOOP,
    (1, 0, 0): PUT,
    (1, 0, 1): INNER_IF,
    (1, 0, 1, 0, 0): SAY,
    (1, 0, 1, 0, 1): INNER_LOOP,
    (1, 0, 1, 0, 1, 0, 0): ("put", 0, ((0, 0), 7)),
    (1, 0, 1, 1, 0): LOOP,
    (1, 0, 1, 1, 0, 0, 0): PUT,
    (1, 0, 2): INNER_LOOP,
    (1, 0, 2, 0, 0): ("put", 0, ((0, 0), 7)),
    (2,): PUT,
}


class Hostile:
    """Answers no question that Python itself puts to it."""

    def __eq__(self, other):
        raise RuntimeError("asked")

    __ne__ = __lt__ = __le__ = __gt__ = __ge__ = __eq__
    __hash__ = None

    def __len__(self):
        raise RuntimeError("asked")

    __iter__ = __bool__ = __int__ = __index__ = __str__ = __repr__ = __len__

    def __getitem__(self, at):
        raise RuntimeError("asked")

    def __contains__(self, one):
        raise RuntimeError("asked")


class Shifting(tuple):
    """A tuple that is another one each time that it is gone through."""

    def __iter__(self):
        raise RuntimeError("asked")


class Pretender:
    """Says that it is a number."""

    @property
    def __class__(self):
        return int


CYCLE = []
CYCLE.append(CYCLE)
DEEP = ()
for _ in range(100000):
    DEEP = (DEEP,)

# None of these may stand at any place of a program or be its tops or rows.
NEVER = [
    True, False, None, "", "text", "PUT", b"put", 1.0, 0.5, 1j, -100, 100, 10 ** 40, -10 ** 40,
    [], [0], [()], {}, {0: 0}, {1}, frozenset(), range(2), object(), int, len, Hostile(), Shifting((0, 0)),
    Pretender(), CYCLE, DEEP, (True, False), ("say",), (None,), ("text", SUM), (((),),),
]


def is_number(one):
    return type(one) == int


def replacements(whole, path=()):
    """Each place in nested tuples, by the path to it, with what stands there."""
    yield path, whole
    if type(whole) == tuple:
        for at, part in enumerate(whole):
            yield from replacements(part, path + (at,))


def replaced(whole, path, part):
    if path == ():
        return part
    at = path[0]
    return whole[:at] + (replaced(whole[at], path[1:], part),) + whole[at + 1:]


class Case(unittest.TestCase):
    def assert_refused(self, tops, rows):
        with self.assertRaises(BadProgram) as caught:
            Program(tops, rows)
        self.assertIsInstance(caught.exception, LoopError)
        self.assertIsInstance(caught.exception, ValueError)
        self.assertNotIsInstance(caught.exception, (BadFilling, NoLoop))

    def assert_program(self, tops, rows):
        program = Program(tops, rows)
        self.assertEqual(program.tops, tops)
        self.assertEqual(program.rows, rows)


class TestTops(Case):
    def test_one_to_three_boxes(self):
        for tops in ([0], [9], [0, 9], [5, 5], [0, 0, 0], [9, 9, 9], [1, 2, 3]):
            self.assert_program(tops, ())

    def test_no_box_and_four_boxes(self):
        self.assert_refused([], ())
        self.assert_refused([1, 2, 3, 4], ())
        self.assert_refused([1] * 1000, ())

    def test_tops_from_0_to_9(self):
        for many in (1, 2, 3):
            for box in range(many):
                for top in range(10):
                    tops = [4] * many
                    tops[box] = top
                    self.assert_program(tops, ())
                for top in (-1, 10, -10 ** 40, 10 ** 40):
                    tops = [4] * many
                    tops[box] = top
                    self.assert_refused(tops, ())

    def test_a_tuple_is_no_list_of_tops(self):
        self.assert_refused((1, 2), ())

    def test_anything_as_tops(self):
        for thing in NEVER:
            if not (type(thing) == list and thing == [0]):
                self.assert_refused(thing, ())
        for thing in (0, 3, (), ROWS):
            self.assert_refused(thing, ())

    def test_anything_as_a_top(self):
        for thing in NEVER + [()]:
            self.assert_refused([thing], ())
            self.assert_refused([1, thing], ())
            self.assert_refused([thing, 1, 1], ())

    def test_bad_rows_and_bad_tops_together(self):
        self.assert_refused(None, None)


class TestRows(Case):
    def test_each_kind_of_row(self):
        for row in (PUT, SAY, IF, LOOP):
            self.assert_program([3, 4], (row,))
        self.assert_program([3, 4], (PUT, SAY, IF, LOOP))
        self.assert_program([3, 4], ROWS)

    def test_the_rows_within_may_be_none(self):
        self.assert_program([3, 4], (("if", SUM, (), ()), ("loop", SUM, (), ())))

    def test_rows_for_one_and_three_boxes(self):
        self.assert_program([1], (("put", 0, ((2,), 0)), ("loop", ((1,), 0), (((1,), 1),), ())))
        self.assert_program([1, 2, 3], (("put", 2, ((1, 2, 3), 0)), ("say", ((0, 0, 0), 0))))

    def test_the_box_of_a_put(self):
        for many in (1, 2, 3):
            for box in range(-4, 6):
                rows = (("put", box, ((1,) * many, 0)),)
                if 0 <= box < many:
                    self.assert_program([2] * many, rows)
                else:
                    self.assert_refused([2] * many, rows)

    def test_none_to_twelve_rows(self):
        for many in range(13):
            self.assert_program([1, 1], (PUT,) * many)
        for many in (13, 14, 1000):
            self.assert_refused([1, 1], (PUT,) * many)

    def test_rows_within_others_count(self):
        self.assert_program([1, 1], (("loop", SUM, (), (SAY,) * 11),))
        self.assert_refused([1, 1], (("loop", SUM, (), (SAY,) * 12),))
        self.assert_program([1, 1], (("if", SUM, (SAY,) * 5, (SAY,) * 6),))
        self.assert_refused([1, 1], (("if", SUM, (SAY,) * 6, (SAY,) * 6),))
        self.assert_refused([1, 1], (("if", SUM, (), (SAY,) * 12),))
        self.assert_program([1, 1], (IF, IF, IF, LOOP, SAY))
        self.assert_refused([1, 1], (IF, IF, IF, LOOP, LOOP))
        self.assert_refused([1, 1], (SAY,) * 11 + (LOOP,))
        self.assert_program([1, 1], (SAY,) * 10 + (LOOP,))
        inner = ("loop", SUM, (), (("if", SUM, (SAY,) * 3, (SAY,) * 4),))
        self.assert_program([1, 1], (inner, SAY, SAY, SAY))
        self.assert_refused([1, 1], (inner, SAY, SAY, SAY, SAY))

    def test_three_ifs_and_loops_within_one_another(self):
        wraps = [
            lambda rows: (("loop", SUM, (), rows),),
            lambda rows: (("if", SUM, rows, ()),),
            lambda rows: (("if", SUM, (), rows),),
        ]
        for most in (1, 2, 3, 4, 5):
            for chosen in product(wraps, repeat=most):
                for rows in ((), (PUT,)):
                    for wrap in chosen:
                        rows = wrap(rows)
                    if most <= 3:
                        self.assert_program([1, 1], rows)
                    else:
                        self.assert_refused([1, 1], rows)

    def test_none_to_three_words_that_a_loop_keeps(self):
        for many in range(7):
            rows = (("loop", SUM, (SUM,) * many, ()),)
            if many <= 3:
                self.assert_program([1, 1], rows)
            else:
                self.assert_refused([1, 1], rows)

    def test_very_wide_rows_in_one_another_are_refused(self):
        rows = (SAY,) * 12
        for _ in range(3):
            rows = (("if", SUM, rows, rows),) * 12
        self.assert_refused([1, 1], rows)


class TestNumbers(Case):
    def everywhere(self, word):
        """A program of two boxes for each place at which a sum may stand."""
        return [
            (("put", 0, word),),
            (("say", word),),
            (("if", word, (), ()),),
            (("loop", word, (), ()),),
            (("loop", SUM, (word,), ()),),
            (("loop", SUM, (SUM, SUM, word), ()),),
            (("if", SUM, (), (("loop", SUM, (), (("say", word),)),)),),
        ]

    def assert_all(self, word, good):
        for rows in self.everywhere(word):
            if good:
                self.assert_program([1, 1], rows)
            else:
                self.assert_refused([1, 1], rows)

    def test_numbers_from_minus_9_to_9(self):
        for number in range(-9, 10):
            self.assert_all(((number, 0), 0), True)
            self.assert_all(((0, number), 0), True)
        for number in (-10, 10, -99, 99, -10 ** 40, 10 ** 40):
            self.assert_all(((number, 0), 0), False)
            self.assert_all(((0, number), 0), False)

    def test_last_ones_from_minus_99_to_99(self):
        for last in (-99, -98, -10, 0, 10, 98, 99):
            self.assert_all(((1, 1), last), True)
        for last in (-100, 100, -10 ** 40, 10 ** 40):
            self.assert_all(((1, 1), last), False)

    def test_one_number_for_each_box(self):
        for numbers in ((), (1,), (1, 1, 1), (1,) * 9):
            self.assert_all((numbers, 0), False)

    def test_what_is_no_sum(self):
        for word in ([(1, 1), 0], ([1, 1], 0), ((1, 1),), ((1, 1), 0, 0), (1, 1, 0), (0, (1, 1)), (), 0):
            self.assert_all(word, False)


class TestWrongThings(Case):
    def test_anything_at_any_place(self):
        for path, _ in list(replacements(ROWS)):
            for thing in NEVER:
                self.assert_refused([3, 4], replaced(ROWS, path, thing))

    def test_a_list_where_a_tuple_is_asked(self):
        for path, part in list(replacements(ROWS)):
            if type(part) == tuple:
                self.assert_refused([3, 4], replaced(ROWS, path, list(part)))

    def test_a_number_where_none_is_asked(self):
        for path, part in list(replacements(ROWS)):
            if not is_number(part):
                self.assert_refused([3, 4], replaced(ROWS, path, 1))

    def test_rows_and_sums_that_are_too_short_or_too_long(self):
        for row in (PUT, SAY, IF, LOOP):
            for bad in (row[:-1], row[:1], row + (row[-1],), row + ((),), row + (None,), row[1:], ()):
                self.assert_refused([3, 4], (bad,))
                self.assert_refused([3, 4], (("loop", SUM, (), (bad,)),))
                self.assert_refused([3, 4], (("if", SUM, (), (PUT, bad)),))

    def test_a_row_or_a_word_without_the_tuple_around_it(self):
        self.assert_refused([3, 4], SAY)
        self.assert_refused([3, 4], (("loop", SUM, SUM, ()),))
        self.assert_refused([3, 4], (("loop", SUM, (), PUT),))
        self.assert_refused([3, 4], (("if", SUM, SAY, ()),))

    def test_an_unknown_word_at_the_front(self):
        for word in ("Put", "puts", "pu", "while", "", "if ", "loop\n", b"say", 0, None, True, ("say",)):
            for row in (PUT, SAY, IF, LOOP):
                self.assert_refused([3, 4], ((word,) + row[1:],))

    def test_the_front_of_another_kind(self):
        for row in (PUT, SAY):
            for word in ("put", "say", "if", "loop"):
                if word != row[0]:
                    self.assert_refused([3, 4], ((word,) + row[1:],))
        self.assert_refused([3, 4], (("loop",) + IF[1:],))

    def test_rows_within_that_are_good_in_one_half_only(self):
        self.assert_refused([3, 4], (("if", SUM, (PUT,), (None,)),))
        self.assert_refused([3, 4], (("if", SUM, (None,), (PUT,)),))


class TestPlaces(Case):
    def test_the_row_at_each_place(self):
        program = Program([3, 4], ROWS)
        for place, row in PLACES.items():
            self.assertEqual(program.row(place), row)

    def test_the_first_and_the_second_rows_of_an_if(self):
        first, second = ("say", ((1, 0), 0)), ("say", ((0, 1), 0))
        program = Program([3, 4], (("if", SUM, (PUT, first), (PUT, second)),))
        self.assertEqual(program.row((0, 0, 1)), first)
        self.assertEqual(program.row((0, 1, 1)), second)

    def test_twelve_rows_each_at_its_number(self):
        rows = tuple([("say", ((0, 0), number)) for number in range(12)])
        program = Program([3, 4], rows)
        for number in range(12):
            self.assertEqual(program.row((number,)), rows[number])


class TestLoops(Case):
    def test_a_loop_ahead_of_those_in_its_rows_and_all_as_they_stand(self):
        program = Program([3, 4], ROWS)
        self.assertEqual(
            program.loops(), [(1,), (1, 0, 1, 0, 1), (1, 0, 1, 1, 0), (1, 0, 2)]
        )

    def test_each_is_the_place_of_a_loop(self):
        program = Program([3, 4], ROWS)
        for place in program.loops():
            self.assertEqual(program.row(place)[0], "loop")
        self.assertEqual(program.loops(), [place for place, row in PLACES.items() if row[0] == "loop"])

    def test_no_loops(self):
        self.assertEqual(Program([3], ()).loops(), [])
        self.assertEqual(Program([3, 4], (PUT, SAY, IF)).loops(), [])

    def test_loops_beside_and_within_one_another(self):
        bare = ("loop", SUM, (), ())
        self.assertEqual(Program([3, 4], (bare, PUT, bare)).loops(), [(0,), (2,)])
        double = ("loop", SUM, (), (bare, bare))
        self.assertEqual(
            Program([3, 4], (double, double)).loops(),
            [(0,), (0, 0, 0), (0, 0, 1), (1,), (1, 0, 0), (1, 0, 1)],
        )
        triple = ("loop", SUM, (), (PUT, ("loop", SUM, (), (bare,))))
        self.assertEqual(Program([3, 4], (triple,)).loops(), [(0,), (0, 0, 1), (0, 0, 1, 0, 0)])

    def test_an_ifs_first_rows_ahead_of_its_second_ones(self):
        bare = ("loop", SUM, (), ())
        self.assertEqual(
            Program([3, 4], (SAY, ("if", SUM, (bare, bare), (SAY, bare)), bare)).loops(),
            [(1, 0, 0), (1, 0, 1), (1, 1, 1), (2,)],
        )

    def test_a_list_of_tuples(self):
        told = Program([3, 4], (LOOP,)).loops()
        self.assertIs(type(told), list)
        self.assertIs(type(told[0]), tuple)


class TestWithin(Case):
    def test_from_0_to_the_top_in_each_box(self):
        for tops in ([0], [3], [9], [0, 9], [2, 1], [1, 0, 2]):
            program = Program(tops, ())
            for held in product(range(-2, 12), repeat=len(tops)):
                within = all([0 <= one <= top for one, top in zip(held, tops)])
                self.assertIs(is_within(program, list(held)), within)

    def test_very_large_numbers_are_not_within(self):
        program = Program([9, 9], ())
        self.assertIs(is_within(program, [10 ** 60, 0]), False)
        self.assertIs(is_within(program, [0, -10 ** 60]), False)

    def test_what_is_no_filling_is_not_within(self):
        program = Program([9, 9], ())
        for thing in ([], [0], [0, 0, 0], (0, 0), [True, 0], [0, False], [0, None], ["0", 0], "00", None, 0):
            self.assertIs(is_within(program, thing), False)

    def test_a_filling_is_a_list_of_whole_numbers_one_for_each_box(self):
        program = Program([9, 9], ())
        for thing in ([0, 0], [-1, 10], [10 ** 60, -10 ** 60]):
            self.assertIs(is_filling(program, thing), True)
        for thing in ([], [0], [0, 0, 0], (0, 0), [True, 0], [0, False], [0, None], ["0", 0], "00", None, 0, Hostile()):
            self.assertIs(is_filling(program, thing), False)

    def test_the_filling_stays(self):
        filling = [1, 20]
        is_within(Program([3, 4], ()), filling)
        self.assertEqual(filling, [1, 20])


class TestOwnership(Case):
    def test_what_is_handed_in_stays(self):
        tops, rows = [3, 4], copy.deepcopy(ROWS)
        program = Program(tops, rows)
        program.loops()
        program.row((1, 0, 1))
        is_within(program, [0, 0])
        self.assertEqual(tops, [3, 4])
        self.assertEqual(rows, ROWS)

    def test_tops_handed_in_may_change_later(self):
        tops = [3, 4]
        program = Program(tops, ROWS)
        tops[0] = 0
        tops.append(9)
        self.assertEqual(program.tops, [3, 4])
        self.assertIs(is_within(program, [3, 4]), True)
        tops.clear()
        self.assertEqual(program.tops, [3, 4])

    def test_what_is_told_may_be_changed(self):
        program = Program([3, 4], ROWS)
        told = program.tops
        told[0] = 9
        told.append(9)
        self.assertEqual(program.tops, [3, 4])
        self.assertIs(is_within(program, [9, 4]), False)
        self.assertIs(is_within(program, [3, 4]), True)
        places = program.loops()
        whole = list(places)
        places.clear()
        self.assertEqual(program.loops(), whole)

    def test_what_was_told_is_not_changed_by_what_is_asked_later(self):
        program = Program([3, 4], ROWS)
        tops, places = program.tops, program.loops()
        other = Program([1], ())
        other.loops()
        program.loops().append("more")
        program.tops.append(5)
        self.assertEqual(tops, [3, 4])
        self.assertEqual(places, [(1,), (1, 0, 1, 0, 1), (1, 0, 1, 1, 0), (1, 0, 2)])

    def test_tops_are_told_as_a_list_and_rows_as_they_are(self):
        program = Program([3, 4], ROWS)
        self.assertIs(type(program.tops), list)
        self.assertIs(type(program.rows), tuple)
        self.assertEqual(program.rows, ROWS)

    def test_two_programs_share_nothing(self):
        one, other = Program([3, 4], ROWS), Program([5], ())
        self.assertEqual((one.tops, one.rows), ([3, 4], ROWS))
        self.assertEqual((other.tops, other.rows), ([5], ()))


class TestInterface(unittest.TestCase):
    def test_names_and_arguments(self):
        for function, names in (
            (Program, ["tops", "rows"]),
            (Program.row, ["self", "place"]),
            (Program.loops, ["self"]),
            (is_within, ["program", "filling"]),
        ):
            self.assertEqual(list(inspect.signature(function).parameters), names)
            self.assertEqual(function.__module__, programs.__name__)

    def test_the_class_itself_has_the_methods(self):
        for name in ("row", "loops"):
            self.assertIn(name, vars(Program))


if __name__ == "__main__":
    unittest.main()
