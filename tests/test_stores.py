import unittest

from oneroom.errors import Fallen, OutOfRoom
from oneroom.stores import Store


class Falls:
    """Answers by a dict of counts, None elsewhere, and keeps what it was called with."""

    def __init__(self, answers):
        self.answers = answers
        self.called = []

    def __call__(self, count):
        self.called.append(count)
        return self.answers.get(count)


class StoreCase(unittest.TestCase):
    def assert_falls(self, count, deed, *words):
        with self.assertRaises(Fallen) as caught:
            deed(*words)
        self.assertEqual(caught.exception.count, count)


class Cells(StoreCase):
    def test_made(self):
        self.assertEqual(Store([7, 3, 7]).told(), ([7, 3, 7], [0, 0], 0))
        self.assertEqual(Store([]).told(), ([], [0, 0], 0))
        self.assertEqual(Store([5], None).told(), ([5], [0, 0], 0))

    def test_told_is_a_tuple_of_two_lists_and_a_number(self):
        told = Store([1]).told()
        self.assertEqual([type(part) for part in told], [list, list, int])
        self.assertIs(type(told), tuple)

    def test_read_and_write_by_place(self):
        store = Store([7, 3, -8])
        self.assertEqual([store.read(at) for at in range(3)], [7, 3, -8])
        self.assertIsNone(store.write(0, 10 ** 60 - 1))
        self.assertIsNone(store.write(2, -4))
        self.assertEqual(store.told(), ([10 ** 60 - 1, 3, -4], [0, 0], 2))
        self.assertEqual(store.read(2), -4)

    def test_reading_asks_for_no_write(self):
        falls = Falls({})
        store = Store([7], falls)
        store.read(0)
        store.noted()
        store.told()
        self.assertEqual(store.told()[2], 0)
        self.assertEqual(falls.called, [])

    def test_a_write_of_the_same_sign_is_asked_for_too(self):
        store = Store([7])
        store.write(0, 7)
        self.assertEqual(store.told(), ([7], [0, 0], 1))

    def test_places_that_the_room_lacks(self):
        falls = Falls({0: (), 1: (9,)})
        for cells in ([], [4], [4, 5, 6]):
            store = Store(cells, falls)
            for at in (-1, -len(cells), -len(cells) - 1, len(cells), len(cells) + 1, 10 ** 60 - 1, 1 - 10 ** 60):
                if 0 <= at < len(cells):
                    continue
                with self.assertRaises(OutOfRoom) as caught:
                    store.read(at)
                self.assertEqual(caught.exception.at, at)
                with self.assertRaises(OutOfRoom) as caught:
                    store.write(at, 1)
                self.assertEqual(caught.exception.at, at)
                self.assertEqual(store.told(), (cells, [0, 0], 0))
        self.assertEqual(falls.called, [])


class Notes(StoreCase):
    def test_even_and_odd_numbers_have_a_note_each(self):
        store = Store([])
        self.assertIsNone(store.mark(1))
        self.assertEqual(store.told(), ([], [0, 1], 1))
        store.mark(2)
        self.assertEqual(store.told(), ([], [2, 1], 2))
        store.mark(5)
        self.assertEqual(store.told(), ([], [2, 5], 3))
        store.mark(0)
        self.assertEqual(store.told(), ([], [0, 5], 4))
        store.mark(10 ** 60 - 2)
        self.assertEqual(store.told(), ([], [10 ** 60 - 2, 5], 5))

    def test_the_greatest_note_is_told(self):
        store = Store([])
        self.assertEqual(store.noted(), 0)
        store.mark(1)
        self.assertEqual(store.noted(), 1)
        store.mark(6)
        self.assertEqual(store.noted(), 6)
        store.mark(3)
        self.assertEqual(store.noted(), 6)
        store.mark(0)
        self.assertEqual(store.noted(), 3)

    def test_lost_notes_are_no_numbers(self):
        store = Store([], Falls({2: (9,), 3: (9,)}))
        store.mark(4)
        store.mark(5)
        self.assert_falls(2, store.mark, 7)
        self.assertEqual(store.told()[1], [4, None])
        self.assertEqual(store.noted(), 4)
        self.assert_falls(3, store.mark, 8)
        self.assertEqual(store.told()[1], [None, None])
        self.assertEqual(store.noted(), 0)
        store.mark(7)
        self.assertEqual(store.told()[1], [None, 7])
        self.assertEqual(store.noted(), 7)

    def test_begin_is_two_writes(self):
        falls = Falls({})
        store = Store([3], falls)
        store.mark(8)
        store.mark(9)
        self.assertIsNone(store.begin())
        self.assertEqual(store.told(), ([3], [0, 0], 4))
        self.assertEqual(falls.called, [0, 1, 2, 3])

    def test_begin_mends_lost_notes(self):
        store = Store([], Falls({0: (1,), 1: (1,)}))
        self.assert_falls(0, store.mark, 2)
        self.assert_falls(1, store.mark, 3)
        store.begin()
        self.assertEqual(store.told(), ([], [0, 0], 4))


class TheFall(StoreCase):
    def test_it_is_called_with_the_count_ahead_once_for_each_write(self):
        falls = Falls({})
        store = Store([0, 0], falls)
        store.write(1, 5)
        store.mark(1)
        store.write(0, 6)
        self.assertEqual(falls.called, [0, 1, 2])
        self.assertEqual(store.told(), ([6, 5], [0, 1], 3))

    def test_the_count_has_grown_as_it_is_called(self):
        seen = []
        store = Store([4], lambda count: seen.append((count, store.told())))
        store.write(0, 5)
        store.mark(1)
        self.assertEqual(seen, [(0, ([4], [0, 0], 1)), (1, ([5], [0, 0], 2))])

    def test_nothing_written_into_a_cell(self):
        store = Store([4, 5], Falls({1: ()}))
        store.write(0, 6)
        self.assert_falls(1, store.write, 1, 7)
        self.assertEqual(store.told(), ([6, 5], [0, 0], 2))
        store.write(1, 7)
        self.assertEqual(store.told(), ([6, 7], [0, 0], 3))

    def test_another_sign_written_into_a_cell(self):
        for sign in (-9, 0, 10 ** 60 - 1):
            store = Store([4, 5], Falls({0: (sign,)}))
            self.assert_falls(0, store.write, 1, 7)
            self.assertEqual(store.told(), ([4, sign], [0, 0], 1))

    def test_nothing_written_into_a_note(self):
        store = Store([4], Falls({1: ()}))
        store.mark(2)
        self.assert_falls(1, store.mark, 4)
        self.assertEqual(store.told(), ([4], [2, 0], 2))

    def test_a_note_is_lost(self):
        for sign in (-9, 0, 12):
            store = Store([4], Falls({1: (sign,)}))
            store.mark(3)
            self.assert_falls(1, store.mark, 5)
            self.assertEqual(store.told(), ([4], [0, None], 2))

    def test_a_fall_at_begin_s_first_write(self):
        for answer, note in (((), 2), ((7,), None)):
            store = Store([4], Falls({2: answer}))
            store.mark(2)
            store.mark(3)
            self.assert_falls(2, store.begin)
            self.assertEqual(store.told(), ([4], [note, 3], 3))

    def test_a_fall_between_the_writes_of_begin(self):
        for answer, note in (((), 3), ((7,), None)):
            store = Store([4], Falls({3: answer}))
            store.mark(2)
            store.mark(3)
            self.assert_falls(3, store.begin)
            self.assertEqual(store.told(), ([4], [0, note], 4))

    def test_falls_at_every_write(self):
        store = Store([4], lambda count: ())
        for count in range(3):
            self.assert_falls(count, store.write, 0, 9)
        self.assert_falls(3, store.begin)
        self.assertEqual(store.told(), ([4], [0, 0], 4))


class OwnLists(StoreCase):
    def test_the_list_handed_in(self):
        cells = [1, 2]
        store = Store(cells)
        store.write(0, 9)
        self.assertEqual(cells, [1, 2])
        cells[1] = 8
        cells.append(7)
        self.assertEqual(store.told()[0], [9, 2])
        with self.assertRaises(OutOfRoom):
            store.read(2)

    def test_the_lists_told(self):
        store = Store([1, 2])
        told = store.told()
        told[0][0] = 9
        told[0].append(9)
        told[1][1] = 9
        self.assertEqual(store.told(), ([1, 2], [0, 0], 0))
        self.assertEqual(store.noted(), 0)
        before = store.told()
        store.write(0, 5)
        store.mark(1)
        self.assertEqual(before, ([1, 2], [0, 0], 0))

    def test_stores_share_nothing(self):
        cells = [1, 2]
        one, other = Store(cells), Store(cells)
        one.write(0, 3)
        one.mark(1)
        self.assertEqual(other.told(), ([1, 2], [0, 0], 0))


if __name__ == "__main__":
    unittest.main()
