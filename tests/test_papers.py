import itertools
import unittest

from oneroom.papers import cost, meant, plain

LARGE = 10 ** 60 - 1

ROWS = (("take", 0, 3, 2), ("put", 2, (9, -8)), ("take", 4, 4, 1), ("take", 5, 0, 3))
PAPER = (6, 8, ROWS)
ELDER = [10, 11, 12, 13, 14, 15]


class Meant(unittest.TestCase):
    def test_takes_and_puts_in_any_order_of_the_rows(self):
        for rows in itertools.permutations(ROWS):
            self.assertEqual(meant((6, 8, rows), ELDER), [13, 14, 9, -8, 14, 10, 11, 12], rows)

    def test_it_is_a_list(self):
        self.assertIs(type(meant(PAPER, ELDER)), list)
        self.assertIs(type(meant((0, 0, ()), [])), list)

    def test_the_empty_paper(self):
        self.assertEqual(meant((0, 0, ()), []), [])
        self.assertEqual(meant((3, 0, ()), [7, 3, 7]), [])

    def test_a_take_that_stays(self):
        self.assertEqual(meant((3, 3, (("take", 0, 0, 3),)), [7, 3, 8]), [7, 3, 8])
        self.assertEqual(meant((3, 2, (("take", 1, 1, 1), ("take", 0, 2, 1))), [7, 3, 8]), [8, 3])

    def test_two_rooms_know_nothing_of_late_rows(self):
        about = (("take", 0, 1, 1), ("take", 1, 0, 1))
        self.assertEqual(meant((2, 2, about), [4, 5]), [5, 4])
        self.assertEqual(meant((2, 2, about[::-1]), [4, 5]), [5, 4])
        self.assertEqual(meant((2, 3, (("put", 0, (9,)), ("take", 1, 0, 2))), [4, 5]), [9, 4, 5])

    def test_takes_that_read_what_they_write(self):
        self.assertEqual(meant((4, 4, (("take", 0, 1, 3), ("put", 3, (0,)))), [1, 2, 3, 4]), [2, 3, 4, 0])
        self.assertEqual(meant((4, 5, (("put", 0, (0,)), ("take", 1, 0, 4))), [1, 2, 3, 4]), [0, 1, 2, 3, 4])

    def test_one_stretch_taken_twice(self):
        self.assertEqual(meant((2, 4, (("take", 0, 0, 2), ("take", 2, 0, 2))), [5, 6]), [5, 6, 5, 6])

    def test_a_newer_text_shorter_and_longer_than_the_elder_one(self):
        self.assertEqual(meant((4, 1, (("take", 0, 3, 1),)), [1, 2, 3, 4]), [4])
        self.assertEqual(meant((0, 2, (("put", 0, (LARGE, -LARGE)),)), []), [LARGE, -LARGE])

    def test_texts_of_three_hundred_signs(self):
        elder = list(range(300))
        rows = tuple([("take", at, 299 - at, 1) for at in range(300)])
        self.assertEqual(meant((300, 300, rows), elder), elder[::-1])
        self.assertEqual(meant((300, 300, (("take", 0, 0, 300),)), elder), elder)

    def test_what_is_handed_in_stays(self):
        elder = list(ELDER)
        paper = (6, 8, tuple(ROWS))
        told = meant(paper, elder)
        self.assertEqual((elder, paper), (ELDER, PAPER))
        elder[3] = 0
        elder.clear()
        self.assertEqual(told, [13, 14, 9, -8, 14, 10, 11, 12])

    def test_what_is_told_is_the_asker_s_own(self):
        stays = (2, 2, (("take", 0, 0, 2),))
        elder = [5, 6]
        told = meant(stays, elder)
        told.append(7)
        told[0] = 0
        self.assertEqual(elder, [5, 6])
        self.assertEqual(meant(stays, elder), [5, 6])


class Cost(unittest.TestCase):
    def test_takes_and_puts_together(self):
        self.assertEqual(cost(PAPER), 4 + (2 + 2) + 4 + 4)
        for rows in itertools.permutations(ROWS):
            self.assertEqual(cost((6, 8, rows)), 16)

    def test_takes(self):
        self.assertEqual(cost((300, 300, (("take", 0, 0, 300),))), 4)
        self.assertEqual(cost((2, 2, (("take", 0, 1, 1), ("take", 1, 0, 1)))), 8)

    def test_puts(self):
        self.assertEqual(cost((0, 1, (("put", 0, (LARGE,)),))), 3)
        self.assertEqual(cost((0, 5, (("put", 0, (1, 1)), ("put", 2, (1, 1, 1))))), 9)
        self.assertEqual(cost((0, 300, tuple([("put", at, (1,)) for at in range(300)]))), 900)

    def test_the_empty_paper(self):
        self.assertEqual(cost((0, 0, ())), 0)
        self.assertEqual(cost((7, 0, ())), 0)


class Plain(unittest.TestCase):
    def test_one_put_of_all_signs(self):
        self.assertEqual(plain(5, [7, 3, 7]), (5, 3, (("put", 0, (7, 3, 7)),)))
        self.assertEqual(plain(0, [-LARGE]), (0, 1, (("put", 0, (-LARGE,)),)))

    def test_the_empty_text_has_no_row(self):
        self.assertEqual(plain(0, []), (0, 0, ()))
        self.assertEqual(plain(300, []), (300, 0, ()))

    def test_kinds(self):
        paper = plain(5, [7, 3])
        self.assertEqual([type(part) for part in (paper, paper[2], paper[2][0], paper[2][0][2])], [tuple] * 4)

    def test_it_means_its_text_and_costs_two_more_than_its_signs(self):
        for newer in ([], [4], [4, 5], [0] * 300):
            paper = plain(2, newer)
            self.assertEqual(meant(paper, [8, 9]), newer)
            self.assertEqual(cost(paper), len(newer) + 2 if newer else 0)

    def test_what_is_handed_in_stays(self):
        newer = [7, 3, 7]
        paper = plain(5, newer)
        self.assertEqual(newer, [7, 3, 7])
        newer[0] = 0
        newer.append(4)
        self.assertEqual(paper, (5, 3, (("put", 0, (7, 3, 7)),)))


if __name__ == "__main__":
    unittest.main()
