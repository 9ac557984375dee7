"""The judge: whether a paper, whoever wrote it, comes out right in one room for every elder text of its length."""

from oneroom.errors import NoRow
from oneroom.rows import Take, is_whole_from, row_of

MOST = 300


# Each search leans on the ones ahead of it: behind the first two there are rows alone, none of them too long.
def judge(paper):
    if not fits_in_size(paper):
        return ("size",)
    wrong = first_wrong_row(paper)
    if wrong is not None:
        return ("row", wrong)
    rows = [row_of(told) for told in paper[2]]
    fault = covered_twice(rows)
    if fault is None:
        fault = lacking(rows, paper[1])
    if fault is None:
        fault = read_late(rows)
    return fault


def fits_in_size(paper):
    return is_length(paper[0]) and is_length(paper[1]) and len(paper[2]) <= MOST


def is_length(value):
    return is_whole_from(0, value) and value <= MOST


def first_wrong_row(paper):
    for number, told in enumerate(paper[2]):
        if not is_fitting_row(told, paper[0], paper[1]):
            return number
    return None


def is_fitting_row(told, old, new):
    try:
        row = row_of(told)
    except NoRow:
        return False
    # A take that stays reads nothing, but what it leaves in its place must be the elder text's too.
    if isinstance(row, Take) and row.source + row.count > old:
        return False
    return row.covers()[1] <= new


def covered_twice(rows):
    covered = {}
    for number, row in enumerate(rows):
        for cell in row.covered():
            if cell in covered:
                return ("twice", number, cell)
            covered[cell] = True
    return None


def lacking(rows, new):
    covered = {}
    for row in rows:
        for cell in row.covered():
            covered[cell] = True
    for cell in range(new):
        if cell not in covered:
            return ("lacks", cell)
    return None


def read_late(rows):
    written = {}
    for number, row in enumerate(rows):
        for cell in row.reads():
            if cell in written:
                return ("late", number, cell)
        # Only now: what a row writes itself its own pieces have read ahead.
        for cell in row.writes():
            written[cell] = True
    return None
