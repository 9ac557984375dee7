"""Rows: takes and puts, the cells that they cover, read and write, and the pieces by which they are done."""

from oneroom.errors import NoRow


class Row:
    def __init__(self, to):
        self.to = to
        self.count = 0

    def covers(self):
        return (self.to, self.to + self.count)

    def covered(self):
        return list(range(self.to, self.to + self.count))


class Take(Row):
    def __init__(self, to, start, count):
        Row.__init__(self, to)
        self.source = start
        self.count = count

    def stays(self):
        return self.source == self.to

    def reads(self):
        if self.stays():
            return []
        return list(range(self.source, self.source + self.count))

    def writes(self):
        if self.stays():
            return []
        return self.covered()

    # A stretch no longer than start and to are apart writes nothing that it reads, and in this order nothing
    # that a later stretch reads: so a piece that the machine fell in can be done again.
    def pieces(self):
        if self.stays():
            return []
        first = self.to
        end = self.to + self.count
        if self.to < self.source:
            step = self.source - self.to
            return [list(range(at, min(at + step, end))) for at in range(first, end, step)]
        step = self.to - self.source
        return [list(range(max(at - step, first), at)) for at in range(end, first, -step)]

    def source_for(self, cell):
        return self.source + cell - self.to

    def sign_for(self, cell, read):
        return read(self.source_for(cell))

    def cost(self):
        return 4

    def told(self):
        return ("take", self.to, self.source, self.count)


class Put(Row):
    def __init__(self, to, signs):
        Row.__init__(self, to)
        self.signs = tuple(signs)
        self.count = len(self.signs)

    def reads(self):
        return []

    def writes(self):
        return self.covered()

    def pieces(self):
        return [self.covered()]

    def sign_for(self, cell, read):
        return self.signs[cell - self.to]

    def cost(self):
        return 2 + self.count

    def told(self):
        return ("put", self.to, self.signs)


def row_of(told):
    if tells_take(told):
        return Take(told[1], told[2], told[3])
    if tells_put(told):
        return Put(told[1], told[2])
    raise NoRow("neither a take nor a put")


def tells_take(told):
    if not isinstance(told, tuple) or len(told) != 4 or told[0] != "take":
        return False
    return is_whole_from(0, told[1]) and is_whole_from(0, told[2]) and is_whole_from(1, told[3])


def tells_put(told):
    if not isinstance(told, tuple) or len(told) != 3 or told[0] != "put":
        return False
    return is_whole_from(0, told[1]) and are_signs(told[2])


def are_signs(signs):
    return isinstance(signs, tuple) and len(signs) > 0 and all([is_sign(sign) for sign in signs])


def is_sign(value):
    return is_whole(value) and abs(value) < 10 ** 60


def is_whole_from(least, value):
    return is_whole(value) and value >= least


# Python counts True and False among the ints.
def is_whole(value):
    return isinstance(value, int) and not isinstance(value, bool)
