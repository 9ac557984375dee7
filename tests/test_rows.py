import unittest

from oneroom.errors import NoRow
from oneroom.rows import Put, Row, Take, row_of

LARGE = 10 ** 60 - 1

TAKES = (("take", 0, 0, 1), ("take", 2, 5, 7), ("take", 5, 2, 7), ("take", 4, 4, 3), ("take", 0, 299, 1))
PUTS = (("put", 0, (0,)), ("put", 3, (1, -2, 3)), ("put", 299, (LARGE, -LARGE)))


def small_takes():
    return [Take(to, start, count) for to in range(7) for start in range(7) for count in range(1, 9)]


class Making(unittest.TestCase):
    def test_each_kind_is_told_again_as_just_the_tuple(self):
        for told in TAKES + PUTS:
            self.assertEqual(row_of(told).told(), told)
            self.assertIs(type(row_of(told).told()), tuple)

    def test_the_kinds(self):
        for told in TAKES:
            self.assertIsInstance(row_of(told), Take)
        for told in PUTS:
            self.assertIsInstance(row_of(told), Put)
            self.assertIs(type(row_of(told).told()[2]), tuple)
        self.assertTrue(issubclass(Take, Row) and issubclass(Put, Row))
        self.assertFalse(issubclass(Take, Put) or issubclass(Put, Take))

    def test_made_by_the_classes(self):
        self.assertEqual(Take(2, 5, 7).told(), ("take", 2, 5, 7))
        self.assertEqual(Put(3, (1, 2)).told(), ("put", 3, (1, 2)))

    def test_large_numbers_are_not_refused(self):
        for large in (LARGE, 10 ** 60):
            for told in (("take", large, 0, 1), ("take", 0, large, 1), ("take", 0, 1, large), ("put", large, (1,))):
                self.assertEqual(row_of(told).told(), told)


class NoRows(unittest.TestCase):
    def refused(self, *things):
        for thing in things:
            with self.assertRaises(NoRow, msg=repr(thing)):
                row_of(thing)

    def test_no_tuples(self):
        self.refused(["take", 2, 5, 7], ["put", 0, (1,)], "take", "put", "take 2 5 7", None, 0, True, {}, {"take": 1})

    def test_other_words(self):
        self.refused(("Take", 2, 5, 7), ("takes", 2, 5, 7), ("", 2, 5, 7), (2, 5, 7), (None, 2, 5, 7), (0, 2, 5, 7))
        self.refused(("PUT", 0, (1,)), ("put ", 0, (1,)), (0, 0, (1,)), (["put"], 0, (1,)))
        self.refused(("put", 2, 5, 7), ("take", 0, (1,)))

    def test_a_number_more_or_less(self):
        self.refused((), ("take",), ("take", 2), ("take", 2, 5), ("take", 2, 5, 7, 1))
        self.refused(("put",), ("put", 0), ("put", (1,)), ("put", 0, 0, (1,)), ("put", 0, (1,), 0), ("put", 0, 1))

    def test_numbers_below_0(self):
        self.refused(("take", -1, 5, 7), ("take", 2, -1, 7), ("take", 2, 5, -1), ("put", -1, (1,)))
        self.refused(("take", -LARGE, 5, 7))

    def test_a_count_of_0(self):
        self.refused(("take", 2, 5, 0), ("take", 2, 2, 0))

    def test_truths(self):
        for truth in (True, False):
            self.refused(("take", truth, 5, 7), ("take", 2, truth, 7), ("take", 2, 5, truth))
            self.refused(("put", truth, (1,)), ("put", 0, (truth,)), ("put", 0, (1, truth, 2)), ("put", 0, truth))

    def test_things_that_are_no_numbers(self):
        for thing in ("2", None, 2.0, (2,), [2]):
            self.refused(("take", thing, 5, 7), ("take", 2, thing, 7), ("take", 2, 5, thing))
            self.refused(("put", thing, (1,)), ("put", 0, (thing,)), ("put", 0, (1, thing)))

    def test_signs(self):
        self.refused(("put", 0, ()), ("put", 0, [1, 2]), ("put", 0, []), ("put", 0, "12"), ("put", 0, {1: 1}))
        self.refused(("put", 0, (10 ** 60,)), ("put", 0, (-10 ** 60,)), ("put", 0, (1, 10 ** 61, 2)))


class Cells(unittest.TestCase):
    def test_covers(self):
        self.assertEqual(Take(2, 5, 7).covers(), (2, 9))
        self.assertEqual(Take(5, 2, 1).covers(), (5, 6))
        self.assertEqual(Take(4, 4, 3).covers(), (4, 7))
        self.assertEqual(Put(3, (1, 2, 3)).covers(), (3, 6))
        self.assertEqual(Put(0, (1,)).covers(), (0, 1))
        self.assertEqual(Take(1, 2, LARGE).covers(), (1, LARGE + 1))
        self.assertIs(type(Take(2, 5, 7).covers()), tuple)

    def test_reads(self):
        self.assertEqual(Take(2, 5, 7).reads(), [5, 6, 7, 8, 9, 10, 11])
        self.assertEqual(Take(5, 2, 3).reads(), [2, 3, 4])
        self.assertEqual(Take(4, 4, 3).reads(), [])
        self.assertEqual(Put(3, (1, 2, 3)).reads(), [])

    def test_writes(self):
        self.assertEqual(Take(2, 5, 7).writes(), [2, 3, 4, 5, 6, 7, 8])
        self.assertEqual(Take(5, 2, 3).writes(), [5, 6, 7])
        self.assertEqual(Take(4, 4, 3).writes(), [])
        self.assertEqual(Put(3, (1, 2, 3)).writes(), [3, 4, 5])


class Pieces(unittest.TestCase):
    def test_the_document_s_examples(self):
        self.assertEqual(Take(2, 5, 7).pieces(), [[2, 3, 4], [5, 6, 7], [8]])
        self.assertEqual(Take(5, 2, 7).pieces(), [[9, 10, 11], [6, 7, 8], [5]])

    def test_a_put(self):
        self.assertEqual(Put(3, (9, 8, 7)).pieces(), [[3, 4, 5]])
        self.assertEqual(Put(0, (9,)).pieces(), [[0]])

    def test_a_take_that_stays(self):
        self.assertEqual(Take(0, 0, 1).pieces(), [])
        self.assertEqual(Take(4, 4, 300).pieces(), [])

    def test_farther_apart_than_the_count(self):
        self.assertEqual(Take(2, 9, 3).pieces(), [[2, 3, 4]])
        self.assertEqual(Take(9, 2, 3).pieces(), [[9, 10, 11]])
        self.assertEqual(Take(0, LARGE, 2).pieces(), [[0, 1]])
        self.assertEqual(Take(LARGE, 0, 2).pieces(), [[LARGE, LARGE + 1]])

    def test_just_as_far_apart_as_the_count(self):
        self.assertEqual(Take(0, 3, 3).pieces(), [[0, 1, 2]])
        self.assertEqual(Take(3, 0, 3).pieces(), [[3, 4, 5]])

    def test_stretches_that_come_out_even(self):
        self.assertEqual(Take(0, 2, 4).pieces(), [[0, 1], [2, 3]])
        self.assertEqual(Take(2, 0, 4).pieces(), [[4, 5], [2, 3]])

    def test_one_apart(self):
        self.assertEqual(Take(3, 4, 3).pieces(), [[3], [4], [5]])
        self.assertEqual(Take(4, 3, 3).pieces(), [[6], [5], [4]])

    def test_the_pieces_are_what_is_written_each_cell_once(self):
        for row in small_takes():
            self.assertEqual(sorted(sum(row.pieces(), [])), row.writes(), row.told())

    def test_no_piece_writes_what_it_or_a_later_piece_reads(self):
        for row in small_takes():
            pieces = row.pieces()
            for number, piece in enumerate(pieces):
                for later in pieces[number:]:
                    read = []
                    for cell in later:
                        row.sign_for(cell, read.append)
                    self.assertFalse(set(piece) & set(read), row.told())


class Signs(unittest.TestCase):
    def test_a_take_asks_once(self):
        for row, cell, source in (
            (Take(2, 5, 7), 2, 5), (Take(2, 5, 7), 8, 11), (Take(5, 2, 7), 5, 2), (Take(5, 2, 7), 9, 6),
            (Take(4, 4, 3), 5, 5),
        ):
            asked = []

            def read(at):
                asked.append(at)
                return at * 10

            self.assertEqual(row.sign_for(cell, read), source * 10)
            self.assertEqual(asked, [source])

    def test_a_put_never_asks(self):
        def read(at):
            self.fail("a put asks for no sign")

        row = Put(3, (9, -8, LARGE))
        self.assertEqual([row.sign_for(cell, read) for cell in (3, 4, 5)], [9, -8, LARGE])

    def test_the_sources_of_a_take_are_what_it_reads(self):
        for row in small_takes():
            if row.writes():
                self.assertEqual([row.sign_for(cell, lambda at: at) for cell in row.writes()], row.reads())


class Costs(unittest.TestCase):
    def test_takes(self):
        for row in (Take(2, 5, 7), Take(4, 4, 3), Take(0, 0, 1), Take(0, 1, 300)):
            self.assertEqual(row.cost(), 4)

    def test_puts(self):
        self.assertEqual(Put(3, (1,)).cost(), 3)
        self.assertEqual(Put(3, (1, 2, 3)).cost(), 5)
        self.assertEqual(Put(0, (7,) * 300).cost(), 302)


class OwnLists(unittest.TestCase):
    def test_lists_told_and_changed_are_told_again_as_before(self):
        for told in TAKES + PUTS:
            row = row_of(told)
            for ask in (row.reads, row.writes, row.pieces):
                before = [list(x) if isinstance(x, list) else x for x in ask()]
                changed = ask()
                for piece in changed:
                    if isinstance(piece, list):
                        piece.append(77)
                changed.append(88)
                self.assertEqual(ask(), before)
            self.assertEqual(row.told(), told)

    def test_what_is_told_of_writes_is_no_piece(self):
        row = Put(3, (1, 2))
        row.writes().append(9)
        row.pieces()[0].append(9)
        self.assertEqual((row.writes(), row.pieces()), ([3, 4], [[3, 4]]))


if __name__ == "__main__":
    unittest.main()
