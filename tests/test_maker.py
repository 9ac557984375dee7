import itertools
import random
import unittest

from oneroom.judge import judge
from oneroom.maker import found, made
from oneroom.papers import cost, meant, plain
from oneroom.rows import row_of

LARGE = 10 ** 60 - 1


def texts(signs, most):
    for length in range(most + 1):
        for text in itertools.product(signs, repeat=length):
            yield list(text)


def longest_by_looking(text, part):
    for count in range(len(part), 0, -1):
        for at in range(len(text)):
            if text[at:at + count] == part[:count]:
                return (at, count)
    return (0, 0)


def found_by_looking(elder, newer, least):
    """By the document's own words."""
    rows, place = [], 0
    while place < len(newer):
        start, count = longest_by_looking(elder, newer[place:])
        if count >= least:
            rows.append(("take", place, start, count))
            place = place + count
            continue
        if rows and rows[-1][0] == "put":
            rows[-1] = ("put", rows[-1][1], rows[-1][2] + (newer[place],))
        else:
            rows.append(("put", place, (newer[place],)))
        place = place + 1
    return rows


def spoilt_by_each(takes):
    """A dict: of each take the set of those that it spoils, cell by cell."""
    read = {row: set(row_of(row).reads()) for row in takes}
    return {row: {other for other in takes if other != row and not read[other].isdisjoint(row_of(row).writes())}
            for row in takes}


def blocks_changed_about(chance, how_many):
    """Pairs of texts: stretches of an elder text in another order, some left out, twice or changed."""
    for turn in range(how_many):
        blocks = [[chance.randrange(5) for at in range(chance.randrange(5, 12))] for number in range(5)]
        newer = [list(block) for block in blocks]
        chance.shuffle(newer)
        for change in range(chance.randrange(4)):
            block = chance.choice(newer)
            block[chance.randrange(len(block))] = chance.randrange(5)
        if chance.randrange(3) == 0:
            newer.append(list(chance.choice(blocks)))
        yield sum(blocks, []), sum(newer, [])


class Found(unittest.TestCase):
    def test_a_text_that_stays(self):
        text = [1, 2, 3, 4, 5, 6]
        self.assertEqual(found(text, text), [("take", 0, 0, 6)])

    def test_least_left_out_is_6(self):
        elder = [1, 2, 3, 4, 5, 6, 7]
        self.assertEqual(found(elder, [2, 3, 4, 5, 6, 7]), [("take", 0, 1, 6)])
        self.assertEqual(found(elder, [2, 3, 4, 5, 6]), [("put", 0, (2, 3, 4, 5, 6))])
        self.assertEqual(found(elder, [9] + elder), [("put", 0, (9,)), ("take", 1, 0, 7)])

    def test_just_at_least_and_one_below(self):
        elder = [1, 2, 3, 4]
        for least, rows in (
            (1, [("take", 0, 1, 3)]), (3, [("take", 0, 1, 3)]), (4, [("put", 0, (2, 3, 4))]),
            (300, [("put", 0, (2, 3, 4))]), (LARGE, [("put", 0, (2, 3, 4))]),
        ):
            self.assertEqual(found(elder, [2, 3, 4], least), rows)
            self.assertEqual(found(elder, [2, 3, 4], least=least), rows)

    def test_takes_and_puts_in_the_order_of_their_to(self):
        elder = [1, 2, 3, 4, 5, 6]
        newer = [8, 9, 4, 5, 6, 1, 2, 3, 7, 7, 7, 2, 3, 4, 8]
        self.assertEqual(found(elder, newer, 3), [
            ("put", 0, (8, 9)), ("take", 2, 3, 3), ("take", 5, 0, 3), ("put", 8, (7, 7, 7)), ("take", 11, 1, 3),
            ("put", 14, (8,)),
        ])

    def test_a_beginning_too_short_gives_but_its_first_sign_to_the_put(self):
        self.assertEqual(found([1, 2, 9, 2, 3, 4], [1, 2, 3, 4], 3), [("put", 0, (1,)), ("take", 1, 3, 3)])

    def test_the_longest_beginning_goes_ahead_of_a_better_cut(self):
        self.assertEqual(found([1, 2, 3, 0, 3, 4, 5, 6], [1, 2, 3, 4, 5, 6], 3),
                         [("take", 0, 0, 3), ("take", 3, 5, 3)])

    def test_the_least_place(self):
        self.assertEqual(found([5, 1, 2, 3, 1, 2, 3], [1, 2, 3], 3), [("take", 0, 1, 3)])
        self.assertEqual(found([7, 7, 7], [7], 1), [("take", 0, 0, 1)])
        self.assertEqual(found([7, 7, 7], [7, 7, 7, 7, 7], 1), [("take", 0, 0, 3), ("take", 3, 0, 2)])

    def test_empty_texts(self):
        for least in (1, 6, 300):
            self.assertEqual(found([], [], least), [])
            self.assertEqual(found([1, 2, 3], [], least), [])
            self.assertEqual(found([], [1, 2, 3], least), [("put", 0, (1, 2, 3))])

    def test_large_signs_and_signs_below_0(self):
        self.assertEqual(found([0, LARGE, -LARGE], [LARGE, -LARGE, -1], 2), [("take", 0, 1, 2), ("put", 2, (-1,))])

    def test_every_small_pair_of_texts(self):
        for elder in texts((0, 1), 5):
            for newer in texts((0, 1), 5):
                for least in (1, 2, 3):
                    rows = found(elder, newer, least)
                    self.assertEqual(rows, found_by_looking(elder, newer, least), (elder, newer, least))

    def test_longer_texts(self):
        for elder, newer in blocks_changed_about(random.Random(18), 60):
            for least in (1, 4, 6, 9):
                rows = found(elder, newer, least)
                self.assertEqual(rows, found_by_looking(elder, newer, least))
                self.assertFalse([row for row in rows if row[0] == "take" and row[3] < least])
            self.assertEqual(found(elder, newer), found(elder, newer, 6))

    def test_kinds(self):
        rows = found([1, 2, 3], [1, 2, 3, 9], 3)
        self.assertIs(type(rows), list)
        self.assertEqual([type(row) for row in rows], [tuple, tuple])
        self.assertIs(type(rows[1][2]), tuple)

    def test_what_is_handed_in_stays_and_what_is_told_is_the_asker_s_own(self):
        elder, newer = [1, 2, 3], [1, 2, 3, 9]
        rows = found(elder, newer, 3)
        self.assertEqual((elder, newer), ([1, 2, 3], [1, 2, 3, 9]))
        rows.append(None)
        self.assertEqual(found(elder, newer, 3), [("take", 0, 0, 3), ("put", 3, (9,))])
        elder.clear()
        newer.clear()
        self.assertEqual(rows, [("take", 0, 0, 3), ("put", 3, (9,)), None])


class MadeCase(unittest.TestCase):
    def check(self, elder, newer, least):
        paper, turned = made(elder, newer, least)
        self.assertIsNone(judge(paper), (elder, newer, least))
        self.assertEqual(meant(paper, elder), newer)
        self.assertEqual(paper[:2], (len(elder), len(newer)))
        if least >= 6:
            self.assertLessEqual(cost(paper), cost(plain(len(elder), newer)))
        takes = [row for row in found(elder, newer, least) if row[0] == "take"]
        kept = [row for row in paper[2] if row[0] == "take"]
        self.check_rings(takes, turned)
        self.replay(takes, kept, turned)
        self.check_puts(paper, kept)
        return paper, turned

    def check_rings(self, takes, turned):
        gone = []
        for row, ring in turned:
            self.assertIn(row, ring)
            self.assertGreaterEqual(len(ring), 2)
            self.assertEqual(len(set(ring)), len(ring))
            self.assertLessEqual(set(ring), set(takes) - set(gone))
            for one, behind in zip(ring, ring[1:] + ring[:1]):
                self.assertTrue(set(row_of(one).reads()) & set(row_of(behind).writes()), ring)
            self.assertEqual(row, min(ring, key=lambda one: (one[3], one[1])))
            gone.append(row)

    def replay(self, takes, kept, turned):
        """Takes are kept as long as one is harmless, and only else is one turned."""
        spoilt = spoilt_by_each(takes)
        left, kept, gone = set(takes), list(kept), list(turned)
        while left:
            harmless = [row for row in left if not spoilt[row] & left]
            if harmless:
                row = kept.pop(0)
                self.assertIn(row, harmless)
            else:
                row, ring = gone.pop(0)
                self.assertLessEqual(set(ring), left)
            left.remove(row)
        self.assertEqual((kept, gone), ([], []))

    def check_puts(self, paper, kept):
        puts = paper[2][len(kept):]
        self.assertEqual(list(paper[2][:len(kept)]), kept)
        for put, behind in zip(puts, puts[1:]):
            self.assertLess(put[1] + len(put[2]), behind[1])


class Made(MadeCase):
    def test_no_ring(self):
        paper, turned = self.check([1, 2, 3, 4, 5, 6], [9, 1, 2, 3, 4, 5, 6], 6)
        self.assertEqual(paper, (6, 7, (("take", 1, 0, 6), ("put", 0, (9,)))))
        self.assertEqual(turned, [])

    def test_least_left_out_is_6(self):
        elder = [1, 2, 3, 4, 5, 6]
        self.assertEqual(made(elder, elder), ((6, 6, (("take", 0, 0, 6),)), []))
        self.assertEqual(made(elder, elder[:5]), ((6, 5, (("put", 0, (1, 2, 3, 4, 5)),)), []))
        self.assertEqual(made(elder, elder[:5], least=5), ((6, 5, (("take", 0, 0, 5),)), []))

    def test_takes_in_an_order_in_which_none_spoils_a_later_one(self):
        paper, turned = self.check([5, 6, 7, 8], [9, 5, 0, 6], 1)
        self.assertEqual(paper, (4, 4, (("take", 3, 1, 1), ("take", 1, 0, 1), ("put", 0, (9,)), ("put", 2, (0,)))))
        self.assertEqual(turned, [])
        paper, turned = self.check([5, 6, 7, 8], [7, 0, 8, 9], 1)
        self.assertEqual(paper, (4, 4, (("take", 0, 2, 1), ("take", 2, 3, 1), ("put", 1, (0,)), ("put", 3, (9,)))))
        self.assertEqual(turned, [])

    def test_takes_that_spoil_none_come_in_some_order(self):
        paper, turned = self.check([0, 1, 2, 3], [9, 0, 9, 2], 1)
        self.assertEqual(sorted(paper[2][:2]), [("take", 1, 0, 1), ("take", 3, 2, 1)])
        self.assertEqual(paper[2][2:], (("put", 0, (9,)), ("put", 2, (9,))))
        self.assertEqual(turned, [])

    def test_parts_changed_about(self):
        elder = [1, 2, 3, 4, 5, 6, 11, 12, 13, 14, 15, 16, 17]
        newer = elder[6:] + elder[:6]
        paper, turned = self.check(elder, newer, 6)
        self.assertEqual(paper, (13, 13, (("take", 0, 6, 7), ("put", 7, (1, 2, 3, 4, 5, 6)))))
        self.assertEqual(len(turned), 1)
        self.assertEqual(turned[0][0], ("take", 7, 0, 6))
        self.assertEqual(sorted(turned[0][1]), [("take", 0, 6, 7), ("take", 7, 0, 6)])

    def test_of_like_counts_the_least_to_is_turned(self):
        paper, turned = self.check([1, 2], [2, 1], 1)
        self.assertEqual(paper, (2, 2, (("take", 1, 0, 1), ("put", 0, (2,)))))
        self.assertEqual([row for row, ring in turned], [("take", 0, 1, 1)])
        elder = list(range(12))
        paper, turned = self.check(elder, elder[6:] + elder[:6], 6)
        self.assertEqual(paper, (12, 12, (("take", 6, 0, 6), ("put", 0, (6, 7, 8, 9, 10, 11)))))
        self.assertEqual([row for row, ring in turned], [("take", 0, 6, 6)])

    def test_the_least_count_goes_ahead_of_the_least_to(self):
        paper, turned = self.check([1, 2, 3], [2, 3, 1], 1)
        self.assertEqual(paper, (3, 3, (("take", 0, 1, 2), ("put", 2, (1,)))))
        self.assertEqual([row for row, ring in turned], [("take", 2, 0, 1)])

    def test_longer_rings(self):
        for count in range(2, 9):
            elder = list(range(100, 100 + 2 * count))
            parts = elder[2::2] + elder[:1]
            paper, turned = self.check(elder, [sign for part in parts for sign in (part, 9)], 1)
            self.assertEqual([row for row, ring in turned], [("take", 0, 2, 1)])
            self.assertEqual(sorted(turned[0][1]), [("take", 2 * at, 2 * (at + 1) % (2 * count), 1) for at in range(count)])

    def test_two_rings_apart(self):
        # 10 and 20 are changed about, and 40, 50, 60 go round.
        paper, turned = self.check([10, 20, 30, 40, 5, 50, 6, 60], [20, 10, 9, 50, 9, 60, 9, 40], 1)
        self.assertEqual(sorted(len(ring) for row, ring in turned), [2, 3])
        self.assertEqual(sorted(row for row, ring in turned), [("take", 0, 1, 1), ("take", 3, 5, 1)])

    def test_a_turned_take_is_joined_to_the_puts_beside_it(self):
        paper, turned = self.check([1, 2, 3], [3, 9, 1], 1)
        self.assertEqual(paper, (3, 3, (("take", 2, 0, 1), ("put", 0, (3, 9)))))
        paper, turned = self.check([1, 2, 3, 4], [8, 4, 9, 2], 1)
        self.assertEqual(paper, (4, 4, (("take", 3, 1, 1), ("put", 0, (8, 4, 9)))))
        paper, turned = self.check([1, 2, 3, 4], [8, 4, 1, 2], 1)
        self.assertEqual(paper[2][-1], ("put", 0, (8, 4)))
        self.assertEqual(paper[2][:-1], (("take", 2, 0, 2),))
        paper, turned = self.check([1, 2, 3, 4], [2, 3, 9, 1], 1)
        self.assertEqual(paper[2], (("take", 3, 0, 1), ("take", 0, 1, 2), ("put", 2, (9,))))
        self.assertEqual(turned, [])

    def test_a_turned_take_behind_a_put(self):
        paper, turned = self.check([1, 2, 3, 4, 5], [4, 5, 9, 1, 2], 2)
        self.assertEqual(paper, (5, 5, (("take", 3, 0, 2), ("put", 0, (4, 5, 9)))))
        paper, turned = self.check([1, 2, 3, 4, 5], [4, 5, 9, 1, 9], 1)
        self.assertEqual(paper, (5, 5, (("take", 0, 3, 2), ("put", 2, (9, 1, 9)))))

    def test_two_turned_takes_beside_one_another_are_joined(self):
        paper, turned = self.check([1, 2, 3, 4], [4, 3, 2, 1], 1)
        self.assertEqual(paper[2][-1], ("put", 0, (4, 3)))
        self.assertEqual(sorted(paper[2][:-1]), [("take", 2, 1, 1), ("take", 3, 0, 1)])
        self.assertEqual(sorted(row for row, ring in turned), [("take", 0, 3, 1), ("take", 1, 2, 1)])

    def test_puts_by_to_that_do_not_touch_stay_apart(self):
        elder = [1, 2, 3, 4, 5, 6]
        paper, turned = self.check(elder, [9] + elder + [8] + elder + [7, 7], 6)
        self.assertEqual(paper[2][-3:], (("put", 0, (9,)), ("put", 7, (8,)), ("put", 14, (7, 7))))

    def test_takes_that_stay_are_in_no_ring(self):
        paper, turned = self.check([1, 2, 3], [3, 2, 1], 1)
        self.assertIn(("take", 1, 1, 1), paper[2])
        self.assertEqual([len(ring) for row, ring in turned], [2])

    def test_empty_texts(self):
        for least in (1, 6):
            self.assertEqual(self.check([], [], least), ((0, 0, ()), []))
            self.assertEqual(self.check([1, 2, 3], [], least), ((3, 0, ()), []))
            self.assertEqual(self.check([], [1, 2, 3], least), ((0, 3, (("put", 0, (1, 2, 3)),)), []))

    def test_kinds(self):
        told = made([1, 2], [2, 1], 1)
        paper, turned = told
        self.assertEqual([type(part) for part in (told, paper, paper[2])], [tuple] * 3)
        self.assertEqual([type(row) for row in paper[2]], [tuple, tuple])
        self.assertIs(type(paper[2][-1][2]), tuple)
        self.assertEqual([type(part) for part in (turned, turned[0], turned[0][0], turned[0][1])],
                         [list, tuple, tuple, list])
        self.assertEqual([type(row) for row in turned[0][1]], [tuple, tuple])

    def test_what_is_handed_in_stays_and_what_is_told_is_the_asker_s_own(self):
        elder, newer = [1, 2, 3], [2, 3, 1]
        before = made(elder, newer, 1)
        self.assertEqual((elder, newer), ([1, 2, 3], [2, 3, 1]))
        paper, turned = made(elder, newer, 1)
        turned[0][1].append(None)
        turned.append(None)
        self.assertEqual(made(elder, newer, 1), before)
        elder[0] = 9
        newer.clear()
        self.assertEqual(before[0], (3, 3, (("take", 0, 1, 2), ("put", 2, (1,)))))


class ManyTexts(MadeCase):
    def test_every_pair_of_small_texts_of_two_signs(self):
        for elder in texts((0, 1), 5):
            for newer in texts((0, 1), 4):
                for least in (1, 2):
                    self.check(elder, newer, least)
                self.assertEqual(made(elder, newer), (plain(len(elder), newer), []))

    def test_every_pair_of_small_texts_of_three_signs(self):
        for elder in texts((0, 1, 2), 3):
            for newer in texts((0, 1, 2), 4):
                self.check(elder, newer, 1)

    def test_every_order_of_unlike_signs(self):
        rings = set()
        for newer in itertools.permutations(range(6)):
            paper, turned = self.check(list(range(6)), list(newer), 1)
            rings.update(len(ring) for row, ring in turned)
            self.assertEqual(made(list(range(6)), list(newer), 1), (paper, turned))
        self.assertLessEqual({2, 3, 4}, rings)

    def test_six_and_more_of_few_signs(self):
        chance = random.Random(21)
        for turn in range(400):
            elder = [chance.randrange(2) for at in range(chance.randrange(6, 40))]
            newer = [chance.randrange(2) for at in range(chance.randrange(6, 40))]
            for least in (3, 6, 7):
                self.check(elder, newer, least)

    def test_parts_of_texts_changed_about(self):
        seen = set()
        for elder, newer in blocks_changed_about(random.Random(20), 250):
            for least in (1, 3, 6, 8):
                paper, turned = self.check(elder, newer, least)
                seen.update((least, len(ring)) for row, ring in turned)
            self.assertEqual(made(elder, newer), made(elder, newer, 6))
        self.assertLessEqual({(6, 2), (6, 3), (1, 2), (1, 4)}, seen)

    def test_three_hundred_signs(self):
        elder = list(range(300))
        paper, turned = self.check(elder, elder[::-1], 1)
        self.assertEqual(len(turned), 150)
        self.assertEqual(paper[2][-1], ("put", 0, tuple(range(299, 149, -1))))
        self.assertEqual(self.check([4] * 300, [4] * 300, 6), ((300, 300, (("take", 0, 0, 300),)), []))
        paper, turned = self.check(elder, elder[150:] + elder[:150], 6)
        self.assertEqual([row for row, ring in turned], [("take", 0, 150, 150)])


if __name__ == "__main__":
    unittest.main()
