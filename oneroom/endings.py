"""Endings: all places of a text in the order of what stands there, and the longest beginning of a part found by it."""


def endings(text):
    return sorted(range(len(text)), key=lambda at: text[at:])


def longest(text, table, part):
    # The endings that agree with the part farthest lie where it would stand in the table itself.
    less = how_many_less(text, table, part)
    count = max([agreeing(text, at, part) for at in table[max(less - 1, 0):less + 1]], default=0)
    if count == 0:
        return (0, 0)
    beginning = part[:count]
    return (min([at for at in table if text[at:at + count] == beginning]), count)


def how_many_less(text, table, part):
    low = 0
    high = len(table)
    while low < high:
        middle = (low + high) // 2
        if text[table[middle]:] < part:
            low = middle + 1
        else:
            high = middle
    return low


def agreeing(text, at, part):
    count = 0
    while count < len(part) and at + count < len(text) and text[at + count] == part[count]:
        count = count + 1
    return count
