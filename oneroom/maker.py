"""The maker: a paper for an elder and a newer text, its takes in an order in which none spoils a later one."""

from oneroom.endings import endings, longest
from oneroom.rows import Put, Take
from oneroom.spoils import ring_among, spoils


def found(elder, newer, least=6):
    return [row.told() for row in rows_found(elder, newer, least)]


def made(elder, newer, least=6):
    rows = rows_found(elder, newer, least)
    order = put_in_order([row for row in rows if isinstance(row, Take)])
    ordered = order[0]
    turned = order[1]
    puts = [row for row in rows if isinstance(row, Put)]
    puts.extend([put_for(take, elder) for take, ring in turned])
    # A put reads nothing, so behind all takes it spoils nothing.
    done = ordered + joined(puts)
    paper = (len(elder), len(newer), tuple([row.told() for row in done]))
    return (paper, [(take.told(), [row.told() for row in ring]) for take, ring in turned])


def rows_found(elder, newer, least):
    table = endings(elder)
    rows = []
    signs = []
    place = 0
    while place < len(newer):
        best = longest(elder, table, newer[place:])
        count = best[1]
        # A take has one sign at least, whatever the least is.
        if count > 0 and count >= least:
            rows.extend(put_ending_at(place, signs))
            rows.append(Take(place, best[0], count))
            signs = []
            place = place + count
        else:
            signs.append(newer[place])
            place = place + 1
    return rows + put_ending_at(place, signs)


def put_ending_at(end, signs):
    if len(signs) == 0:
        return []
    return [Put(end - len(signs), signs)]


# Tells the takes that are kept, in order, and those that were turned, each with its ring.
def put_in_order(takes):
    spoilt = spoils(takes)
    left = dict([(number, True) for number in range(len(takes))])
    ordered = []
    turned = []
    while len(left) > 0:
        number = harmless_among(spoilt, left)
        if number is None:
            ring = ring_among(spoilt, left)
            number = min(ring, key=lambda one: (takes[one].count, takes[one].to))
            turned.append((takes[number], [takes[one] for one in ring]))
        else:
            ordered.append(takes[number])
        left.pop(number)
    return (ordered, turned)


def harmless_among(spoilt, left):
    for number in left:
        if not any([other in left for other in spoilt[number]]):
            return number
    return None


def put_for(take, elder):
    return Put(take.to, elder[take.source:take.source + take.count])


def joined(puts):
    rows = []
    for put in sorted(puts, key=lambda one: one.to):
        if len(rows) > 0 and rows[-1].covers()[1] == put.to:
            ahead = rows.pop()
            rows.append(Put(ahead.to, ahead.signs + put.signs))
        else:
            rows.append(put)
    return rows
