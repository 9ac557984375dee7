"""Who spoils whom: rows that write what a take has still to read, and the rings that come of it."""

from oneroom.rows import Take

# No place lies in it, so it meets no other stretch.
NO_STRETCH = (0, 0)


def spoils(rows):
    read = [stretch_read(row) for row in rows]
    written = [stretch_written(row) for row in rows]
    return [spoilt_by(number, written[number], read) for number in range(len(rows))]


# A take never spoils itself, whatever it covers: its pieces are done in an order that sees to that.
def spoilt_by(number, stretch, read):
    return [other for other, wanted in enumerate(read) if other != number and meet(stretch, wanted)]


def ring_of(rows, left):
    return ring_among(spoils(rows), left)


# Each of those left spoils another one, so a walk from one to one that it spoils must come back to itself.
# Always the least is chosen, so that the order of left doesn't matter.
def ring_among(spoilt, left):
    path = []
    number = min(left)
    while number not in path:
        path.append(number)
        number = min([other for other in spoilt[number] if other in left])
    # The walk goes from the writing row to the reading one, a ring the other way.
    return list(reversed(path[path.index(number):]))


def stretch_read(row):
    if isinstance(row, Take) and not row.stays():
        return (row.source, row.source + row.count)
    return NO_STRETCH


def stretch_written(row):
    if isinstance(row, Take) and row.stays():
        return NO_STRETCH
    return row.covers()


def meet(one, other):
    return max(one[0], other[0]) < min(one[1], other[1])
