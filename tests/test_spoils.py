import itertools
import random
import unittest

from oneroom.rows import Put, Take
from oneroom.spoils import ring_of, spoils

LARGE = 10 ** 60 - 1


def spoils_by_cells(rows):
    """By the document's own words, cell by cell."""
    return [
        [other for other in range(len(rows)) if other != number and set(row.writes()) & set(rows[other].reads())]
        for number, row in enumerate(rows)
    ]


def some_rows(chance, how_many, places, counts):
    rows = []
    for number in range(how_many):
        to, start, count = chance.randrange(places), chance.randrange(places), chance.randrange(1, counts + 1)
        rows.append(Put(to, (number,) * count) if chance.randrange(6) == 0 else Take(to, start, count))
    return rows


def all_left_that_spoil_one_another(rows):
    """The greatest list of numbers of which each spoils another one in it."""
    table = spoils_by_cells(rows)
    left = list(range(len(rows)))
    while True:
        kept = [number for number in left if set(table[number]) & set(left)]
        if kept == left:
            return left
        left = kept


class Spoils(unittest.TestCase):
    def test_no_rows(self):
        self.assertEqual(spoils([]), [])

    def test_rows_that_spoil_none(self):
        self.assertEqual(spoils([Take(0, 5, 2)]), [[]])
        self.assertEqual(spoils([Take(0, 5, 2), Take(2, 7, 2), Put(4, (1,))]), [[], [], []])

    def test_one_and_several(self):
        rows = [Take(0, 4, 2), Take(4, 9, 2), Take(9, 5, 1), Take(6, 10, 1)]
        self.assertEqual(spoils(rows), [[], [0, 2], [1], []])

    def test_the_edges(self):
        reader = Take(20, 5, 3)
        for writer, spoilt in (
            (Take(2, 30, 3), []), (Take(3, 30, 3), [1]), (Take(7, 30, 3), [1]), (Take(8, 30, 3), []),
            (Put(2, (1,) * 3), []), (Put(3, (1,) * 3), [1]), (Put(7, (1,)), [1]), (Put(8, (1,)), []),
            (Put(0, (1,) * 20), [1]), (Take(6, 30, 1), [1]),
        ):
            self.assertEqual(spoils([writer, reader]), [spoilt, []], writer.told())

    def test_a_row_spoils_not_itself(self):
        for row in (Take(2, 5, 7), Take(5, 2, 7), Take(3, 4, 9)):
            self.assertTrue(set(row.reads()) & set(row.writes()))
            self.assertEqual(spoils([row]), [[]])
            self.assertEqual(spoils([Take(50, 60, 1), row]), [[], []])

    def test_rows_alike_spoil_each_other(self):
        self.assertEqual(spoils([Take(2, 5, 7), Take(2, 5, 7)]), [[1], [0]])
        row = Take(2, 5, 7)
        self.assertEqual(spoils([row, row]), [[1], [0]])

    def test_takes_that_stay(self):
        self.assertEqual(spoils([Take(4, 4, 3), Take(0, 4, 3), Take(5, 9, 1)]), [[], [], [1]])
        self.assertEqual(spoils([Take(0, 0, 3), Take(0, 0, 3)]), [[], []])
        self.assertEqual(spoils([Put(0, (1, 2, 3)), Take(0, 0, 3)]), [[], []])

    def test_puts_spoil_and_are_not_spoilt(self):
        self.assertEqual(spoils([Put(0, (1, 1, 1)), Take(5, 2, 1), Take(6, 0, 1), Put(1, (1,))]), [[1, 2], [], [], []])
        self.assertEqual(spoils([Put(0, (1, 1)), Put(0, (2, 2)), Put(1, (3,))]), [[], [], []])

    def test_the_cell_0(self):
        self.assertEqual(spoils([Put(0, (1,)), Take(1, 0, 1)]), [[1], []])
        self.assertEqual(spoils([Take(0, 3, 1), Take(3, 0, 1)]), [[1], [0]])
        self.assertEqual(spoils([Take(0, 0, 1), Take(3, 0, 1)]), [[], []])

    def test_places_of_sixty_figures(self):
        self.assertEqual(spoils([Take(LARGE, 0, 2), Take(0, LARGE + 1, 1)]), [[1], [0]])
        self.assertEqual(spoils([Take(LARGE, 0, 2), Take(2, LARGE + 2, 1)]), [[], []])

    def test_every_three_small_rows(self):
        small = [Take(to, start, count) for to in range(3) for start in range(3) for count in (1, 2)]
        small = small + [Put(to, (7,) * count) for to in range(3) for count in (1, 2)]
        for rows in itertools.product(small, repeat=3):
            rows = list(rows)
            self.assertEqual(spoils(rows), spoils_by_cells(rows), [row.told() for row in rows])

    def test_many_rows(self):
        chance = random.Random(4)
        for places, counts in ((5, 3), (40, 9), (300, 40)):
            rows = some_rows(chance, 60, places, counts)
            self.assertEqual(spoils(rows), spoils_by_cells(rows))

    def test_three_hundred_rows(self):
        rows = [Take(at, 299 - at, 1) for at in range(300)]
        self.assertEqual(spoils(rows), [[299 - at] for at in range(300)])

    def test_what_is_handed_in_stays_and_what_is_told_is_the_asker_s_own(self):
        rows = [Take(0, 1, 1), Take(1, 0, 1), Put(0, (9,))]
        kept = list(rows)
        told = spoils(rows)
        self.assertEqual(rows, kept)
        self.assertEqual([row.told() for row in rows], [("take", 0, 1, 1), ("take", 1, 0, 1), ("put", 0, (9,))])
        self.assertEqual([type(part) for part in [told] + told], [list] * 4)
        told[0].append(7)
        told.append([8])
        self.assertEqual(spoils(rows), [[1], [0], [1]])
        rows.clear()
        self.assertEqual(told, [[1, 7], [0], [1], [8]])


class Rings(unittest.TestCase):
    def check(self, rows, left):
        given = list(left)
        ring = ring_of(rows, left)
        self.assertIs(type(ring), list)
        self.assertEqual(left, given)
        self.assertGreaterEqual(len(ring), 2)
        self.assertEqual(len(set(ring)), len(ring), ring)
        self.assertLessEqual(set(ring), set(left))
        for number, behind in zip(ring, ring[1:] + ring[:1]):
            self.assertTrue(set(rows[number].reads()) & set(rows[behind].writes()), (ring, number, behind))
        self.assertEqual(ring_of(rows, left), ring)
        return ring

    def check_no_order(self, rows, ring):
        for order in itertools.permutations(ring):
            written = set()
            late = False
            for number in order:
                late = late or bool(written & set(rows[number].reads()))
                written.update(rows[number].writes())
            self.assertTrue(late, order)

    def test_a_ring_of_two(self):
        rows = [Take(0, 1, 1), Take(1, 0, 1)]
        self.assertEqual(sorted(self.check(rows, [0, 1])), [0, 1])
        self.assertEqual(sorted(self.check(rows, [1, 0])), [0, 1])

    def test_a_ring_of_three_goes_from_the_reading_row_to_the_writing_one(self):
        rows = [Take(0, 1, 1), Take(1, 2, 1), Take(2, 0, 1)]
        for left in itertools.permutations(range(3)):
            ring = self.check(rows, list(left))
            at = ring.index(0)
            self.assertEqual(ring[at:] + ring[:at], [0, 1, 2])

    def test_longer_rings_both_ways_about(self):
        for count in range(2, 9):
            for way in (1, -1):
                rows = [Take(at, (at + way) % count, 1) for at in range(count)]
                self.assertEqual(sorted(self.check(rows, list(range(count)))), list(range(count)))
                self.assertEqual(sorted(self.check(rows, list(range(count))[::-1])), list(range(count)))

    def test_a_ring_of_three_hundred(self):
        rows = [Take(at, (at + 1) % 300, 1) for at in range(300)]
        self.assertEqual(len(self.check(rows, list(range(300)))), 300)

    def test_among_rows_that_are_in_no_ring(self):
        # 0 spoils a row of the ring of 2, 4 and 5, and 1 spoils 0; 3 and 6 spoil none and are not left.
        rows = [
            Take(4, 20, 1), Take(20, 31, 1), Take(4, 5, 1), Take(50, 50, 9), Take(5, 6, 1), Take(6, 4, 1), Put(60, (1,)),
        ]
        self.assertEqual(spoils(rows), [[5], [0], [5], [], [2], [4], []])
        for left in itertools.permutations((1, 0, 2, 4, 5)):
            self.assertEqual(sorted(self.check(rows, list(left))), [2, 4, 5])

    def test_puts_are_in_no_ring(self):
        rows = [Put(0, (9,)), Take(0, 1, 1), Take(1, 0, 1)]
        self.assertEqual(sorted(self.check(rows, [0, 1, 2])), [1, 2])
        self.assertEqual(sorted(self.check(rows, [2, 1, 0])), [1, 2])

    def test_only_numbers_in_left(self):
        rows = [Take(0, 1, 1), Take(1, 0, 1), Take(2, 3, 1), Take(3, 2, 1)]
        self.assertEqual(sorted(self.check(rows, [2, 3])), [2, 3])
        self.assertEqual(sorted(self.check(rows, [1, 0])), [0, 1])
        self.assertIn(sorted(self.check(rows, [3, 1, 2, 0])), ([0, 1], [2, 3]))

    def test_rows_that_read_what_they_write(self):
        rows = [Take(0, 1, 4), Take(4, 3, 4)]
        self.assertEqual(sorted(self.check(rows, [0, 1])), [0, 1])

    def test_a_shorter_way_within(self):
        rows = [Take(0, 4, 2), Take(2, 0, 1), Take(4, 1, 4)]
        self.check(rows, [0, 2])
        self.check(rows, [2, 0])

    def test_every_four_small_rows(self):
        small = [Take(to, start, count) for to in range(3) for start in range(3) for count in (1, 2)] + [Put(0, (7, 7))]
        seen = set()
        for rows in itertools.combinations(small, 4):
            left = all_left_that_spoil_one_another(rows)
            if left:
                ring = self.check(rows, left)
                self.check(rows, left[::-1])
                self.check_no_order(rows, ring)
                seen.add(len(ring))
        self.assertLessEqual({2, 3}, seen)

    def test_many_rows(self):
        chance = random.Random(6)
        seen = set()
        for turn in range(300):
            rows = some_rows(chance, 12, 24, 3)
            left = all_left_that_spoil_one_another(rows)
            if left:
                chance.shuffle(left)
                ring = self.check(rows, left)
                seen.add(len(ring))
                if len(ring) <= 5:
                    self.check_no_order(rows, ring)
        self.assertLessEqual({2, 3, 4, 5}, seen)

    def test_what_is_told_is_the_asker_s_own(self):
        rows, left = [Take(0, 1, 1), Take(1, 0, 1)], [0, 1]
        ring = ring_of(rows, left)
        kept = list(ring)
        ring.append(5)
        self.assertEqual((ring_of(rows, left), left, len(rows)), (kept, [0, 1], 2))


if __name__ == "__main__":
    unittest.main()
