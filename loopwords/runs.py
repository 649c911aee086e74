"""Runs and rounds: a program done row by row, and the place that is come to next."""

from loopwords.errors import BadFilling, NoLoop
from loopwords.programs import is_filling, is_within, rows_within
from loopwords.sums import value


def behind(program, place):
    """The place that is come to when the row at a place is done, its own rows too; None at the program's end."""
    while True:
        if place[-1] + 1 < len(_rows_around(program, place)):
            return place[:-1] + (place[-1] + 1,)
        if len(place) == 1:
            return None
        place = place[:-2]
        if program.row(place)[0] == "loop":
            return place


def beginning(program):
    """The place of the program's first row; None where it has no rows."""
    return (0,) if len(program.rows) > 0 else None


def beyond(program, place, holds):
    """The place that is come to from an if or a loop, where its word holds or where it doesn't."""
    row = program.row(place)
    which = 0 if holds else 1
    groups = rows_within(row)
    if which < len(groups) and len(groups[which]) > 0:
        return place + (which, 0)
    if row[0] == "loop" and holds:
        return place
    return behind(program, place)


def run(program, filling, most):
    """The run from the program's beginning; so many rows are let."""
    if not is_filling(program, filling):
        raise BadFilling("a filling is a list of whole numbers, one for each box")
    return _run_from(program, beginning(program), filling, most)


def round_from(program, place, filling, most):
    """The round from a loop; so many rows are let."""
    _check_loop(program, place)
    # What is no filling is not within either.
    if _breaks(program, place, filling):
        raise BadFilling("no round begins with this filling")
    return _run_from(program, place, filling, most)


def _run_from(program, place, filling, most):
    """The run from a place on; so many rows are let."""
    held = list(filling)
    many = 0
    seen = {}
    while place is not None:
        if program.row(place)[0] == "loop":
            most = _let_without_rounds(seen, (place, tuple(held)), many, most)
        if many >= most:
            return ("long", place, held)
        if _breaks(program, place, held):
            return ("broken", place, held)
        place = _after(program, place, held)
        many += 1
    return ("done", held, many)


def _let_without_rounds(seen, here, many, most):
    """How many rows are let, less whole rounds where it has been at this loop with this filling before."""
    # Such a run has no end, and however many rows are let, it shall not take long.
    if here in seen:
        return many + (most - many) % (many - seen[here])
    seen[here] = many
    return most


def _after(program, place, held):
    """Does the row at a place, to the boxes too; tells the place that is come to then."""
    row = program.row(place)
    if row[0] in ("if", "loop"):
        return beyond(program, place, value(row[1], held) <= 0)
    if row[0] == "put":
        held[row[1]] = value(row[2], held)
    return behind(program, place)


def _breaks(program, place, held):
    """Whether a run breaks at a place."""
    row = program.row(place)
    if row[0] == "say":
        return value(row[1], held) > 0
    if row[0] == "loop":
        return not is_within(program, held) or any([value(word, held) > 0 for word in row[2]])
    return False


def _rows_around(program, place):
    """The rows among which the row at a place stands."""
    if len(place) == 1:
        return program.rows
    return rows_within(program.row(place[:-2]))[place[-2]]


def _check_loop(program, place):
    """Refuses what is no place of a loop."""
    # True and False would be taken for 1 and 0.
    well = type(place) == tuple and all([type(number) == int for number in place])
    if not well or place not in program.loops():
        raise NoLoop("no place of a loop")
