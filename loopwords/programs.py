"""Programs: boxes with their tops, rows and the places of rows."""

from loopwords.errors import BadProgram

MOST_BOXES = 3
HIGHEST_TOP = 9
MOST_ROWS = 12
MOST_WITHIN = 3
MOST_KEPT = 3
HIGHEST_NUMBER = 9
HIGHEST_LAST = 99


class Program:
    """A program, made of anything; what is no program is refused with BadProgram."""

    def __init__(self, tops, rows):
        _check_tops(tops)
        _check_rows(rows, len(tops), 0)
        # The list stays with whoever handed it in, who may change it later.
        self._tops = tuple(tops)
        # Checked rows are tuples, strings and numbers throughout, which nobody can change.
        self.rows = rows

    @property
    def tops(self):
        """The tops of the boxes, in a list that is the asker's own."""
        return list(self._tops)

    def row(self, place):
        """The row at a place."""
        found = self.rows[place[0]]
        for at in range(1, len(place), 2):
            found = rows_within(found)[place[at]][place[at + 1]]
        return found

    def loops(self):
        """The places of all loops as they stand, a loop ahead of those in its rows."""
        return _loops_among(self.rows, ())


def is_filling(program, filling):
    """Whether this is a list of whole numbers, one for each box."""
    if type(filling) != list or len(filling) != len(program.tops):
        return False
    return all([type(held) == int for held in filling])


def is_within(program, filling):
    """Whether a filling has in each box a number from 0 to the box's top."""
    if not is_filling(program, filling):
        return False
    return all([0 <= held <= top for held, top in zip(filling, program.tops)])


def rows_within(row):
    """The rows that stand in a row: at 0 its first ones or a loop's, at 1 an if's second ones."""
    if row[0] == "if":
        return (row[2], row[3])
    if row[0] == "loop":
        return (row[3],)
    return ()


def _loops_among(rows, ahead):
    """The places of the loops among rows and in them; ahead is what all these places begin with."""
    found = []
    for number, row in enumerate(rows):
        place = ahead + (number,)
        if row[0] == "loop":
            found.append(place)
        for which, inner in enumerate(rows_within(row)):
            found.extend(_loops_among(inner, place + (which,)))
    return found


def _check_tops(tops):
    """Refuses what is no list of tops."""
    if type(tops) != list or not 1 <= len(tops) <= MOST_BOXES:
        raise BadProgram(f"tops are a list of 1 to {MOST_BOXES} numbers")
    if not all([_is_from_to(top, 0, HIGHEST_TOP) for top in tops]):
        raise BadProgram(f"a top is a whole number from 0 to {HIGHEST_TOP}")


def _check_rows(rows, many, depth):
    """Refuses what are no rows of a program of so many boxes; tells how many rows they are in all."""
    # Lengths and depth are looked at ahead of what is inside, so that nothing handed in takes long.
    if depth > MOST_WITHIN:
        raise BadProgram(f"more than {MOST_WITHIN} ifs and loops within one another")
    if type(rows) != tuple:
        raise BadProgram("rows are a tuple")
    count = len(rows)
    _check_count(count)
    for row in rows:
        _check_row(row, many)
        for inner in rows_within(row):
            count += _check_rows(inner, many, depth + 1)
            _check_count(count)
    return count


def _check_count(count):
    """Refuses more rows than a program has."""
    if count > MOST_ROWS:
        raise BadProgram(f"more than {MOST_ROWS} rows in all")


def _check_row(row, many):
    """Refuses what is no row, but for the rows within it."""
    if type(row) != tuple or len(row) == 0:
        raise BadProgram("a row is a tuple that begins with its kind")
    kind = row[0]
    # What is no string may answer a comparison in its own way.
    if type(kind) != str or kind not in ("put", "say", "if", "loop"):
        raise BadProgram("a row begins with put, say, if or loop")
    if kind == "put":
        well = len(row) == 3 and _is_from_to(row[1], 0, many - 1) and _is_sum(row[2], many)
    elif kind == "say":
        well = len(row) == 2 and _is_sum(row[1], many)
    elif kind == "if":
        well = len(row) == 4 and _is_sum(row[1], many)
    else:
        well = len(row) == 4 and _is_sum(row[1], many) and _are_kept_words(row[2], many)
    if not well:
        raise BadProgram(f"not as a row of its kind: {kind}")


def _are_kept_words(words, many):
    """Whether a loop may keep these."""
    if type(words) != tuple or len(words) > MOST_KEPT:
        return False
    return all([_is_sum(word, many) for word in words])


def _is_sum(one, many):
    """Whether this may be a sum in a program of so many boxes."""
    if type(one) != tuple or len(one) != 2:
        return False
    numbers, last = one
    if type(numbers) != tuple or len(numbers) != many:
        return False
    if not all([_is_from_to(number, -HIGHEST_NUMBER, HIGHEST_NUMBER) for number in numbers]):
        return False
    return _is_from_to(last, -HIGHEST_LAST, HIGHEST_LAST)


def _is_from_to(number, least, most):
    """Whether this is a whole number, True and False being none, from least to most."""
    return type(number) == int and least <= number <= most
