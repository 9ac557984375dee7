"""Papers: what one means for an elder text, what it costs, and the plain one without any take."""

from oneroom.rows import row_of


# All is drawn from the elder text alone, as in a second room, so the order of the rows doesn't matter here.
def meant(paper, elder):
    newer = [0] * paper[1]
    for told in paper[2]:
        row = row_of(told)
        # Not what it writes: a take that stays writes nothing, but its cells are part of the newer text.
        for cell in row.covered():
            newer[cell] = row.sign_for(cell, lambda at: elder[at])
    return newer


def cost(paper):
    return sum([row_of(told).cost() for told in paper[2]])


def plain(old, newer):
    # A put has one sign at least, so the empty text has none.
    if len(newer) == 0:
        return (old, 0, ())
    return (old, len(newer), (("put", 0, tuple(newer)),))
