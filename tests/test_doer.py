import itertools
import random
import unittest

from oneroom.doer import go_on, pieces_of
from oneroom.errors import Fallen, NoRow, OutOfRoom
from oneroom.judge import judge
from oneroom.papers import meant
from oneroom.stores import Store

LARGE = 10 ** 60 - 1


class Falls:
    """Answers by a dict of counts, None elsewhere, and keeps what it was called with."""

    def __init__(self, answers):
        self.answers = answers
        self.called = []

    def __call__(self, count):
        self.called.append(count)
        return self.answers.get(count)


class Spied(Store):
    """Keeps the order of what is asked of it."""

    def __init__(self, cells, fall=None):
        Store.__init__(self, cells, fall)
        self.deeds = []

    def read(self, at):
        self.deeds.append(("read", at, self.told()[0][at]))
        return Store.read(self, at)

    def write(self, at, sign):
        self.deeds.append(("write", at, sign))
        return Store.write(self, at, sign)

    def mark(self, number):
        self.deeds.append(("mark", number))
        return Store.mark(self, number)


def cuts(length):
    """All ways of cutting so many cells into stretches: lists of (first, count)."""
    for inner in itertools.product((False, True), repeat=max(length - 1, 0)):
        ends = [at + 1 for at, cut in enumerate(inner) if cut] + ([length] if length else [])
        yield [(first, end - first) for first, end in zip([0] + ends, ends)]


def faultless_papers(most_old, most_new):
    for old, new in itertools.product(range(most_old + 1), range(most_new + 1)):
        for stretches in cuts(new):
            choices = [[("put", to, tuple(range(-9, count - 9)))]
                       + [("take", to, start, count) for start in range(old - count + 1)] for to, count in stretches]
            for chosen in itertools.product(*choices):
                for rows in itertools.permutations(chosen):
                    paper = (old, new, rows)
                    if judge(paper) is None:
                        yield paper


def random_faultless(chance, how_many, most):
    while how_many > 0:
        old, new = chance.randrange(most), chance.randrange(1, most)
        rows, to = [], 0
        while to < new:
            count = chance.randrange(1, new - to + 1)
            count = min(count, chance.randrange(1, most))
            if count <= old and chance.randrange(4):
                rows.append(("take", to, chance.randrange(old - count + 1), count))
            else:
                rows.append(("put", to, tuple(chance.randrange(-99, 99) for at in range(count))))
            to = to + count
        for turn in range(6):
            chance.shuffle(rows)
            if judge((old, new, tuple(rows))) is None:
                how_many = how_many - 1
                yield (old, new, tuple(rows))
                break


def elder_of(old):
    return [100 + at for at in range(old)]


def room_for(paper, behind=2):
    greater = max(paper[0], paper[1])
    return elder_of(paper[0]) + [-50 - at for at in range(greater - paper[0] + behind)]


def room_after(paper, behind=2):
    room = room_for(paper, behind)
    newer = meant(paper, room[:paper[0]])
    return newer + room[len(newer):]


class Pieces(unittest.TestCase):
    def test_of_a_paper_without_rows(self):
        self.assertEqual(pieces_of((0, 0, ())), [])
        self.assertEqual(pieces_of((7, 0, ())), [])

    def test_of_each_kind_of_row(self):
        self.assertEqual(pieces_of((0, 4, (("put", 1, (7, 8, 9)),))), [(("put", 1, (7, 8, 9)), [1, 2, 3])])
        self.assertEqual(pieces_of((9, 9, (("take", 3, 3, 5),))), [])
        down = ("take", 2, 5, 7)
        self.assertEqual(pieces_of((12, 9, (down,))), [(down, [2, 3, 4]), (down, [5, 6, 7]), (down, [8])])
        up = ("take", 5, 2, 7)
        self.assertEqual(pieces_of((9, 12, (up,))), [(up, [9, 10, 11]), (up, [6, 7, 8]), (up, [5])])

    def test_row_by_row(self):
        rows = (("take", 4, 0, 2), ("take", 0, 1, 2), ("put", 3, (LARGE,)), ("take", 2, 2, 1), ("put", 6, (-1, 0)))
        self.assertEqual(pieces_of((4, 8, rows)), [
            (rows[0], [4, 5]), (rows[1], [0]), (rows[1], [1]), (rows[2], [3]), (rows[4], [6, 7])])

    def test_the_kinds(self):
        told = pieces_of((3, 2, (("take", 0, 1, 2),)))
        self.assertIs(type(told), list)
        for pair in told:
            self.assertEqual([type(pair), type(pair[0]), type(pair[1])], [tuple, tuple, list])

    def test_what_is_told_is_the_asker_s_own(self):
        paper = (3, 3, (("put", 2, (5,)), ("take", 0, 1, 2)))
        told = pieces_of(paper)
        told[0][1].append(9)
        told.pop()
        self.assertEqual(pieces_of(paper), [(paper[2][0], [2]), (paper[2][1], [0]), (paper[2][1], [1])])

    def test_of_a_paper_with_a_fault(self):
        late = (2, 2, (("take", 0, 1, 1), ("take", 1, 0, 1)))
        self.assertEqual(pieces_of(late), [(late[2][0], [0]), (late[2][1], [1])])
        with self.assertRaises(NoRow):
            pieces_of((2, 2, (("put", 0, (1,)), ["put", 1, (1,)])))


class GoneOnWith(unittest.TestCase):
    paper = (4, 6, (("take", 4, 0, 2), ("take", 0, 1, 3), ("put", 3, (7,))))

    def test_from_the_first_piece(self):
        store = Store([1, 2, 3, 4, 5, 6, 8])
        self.assertEqual(go_on(store, self.paper), 5)
        self.assertEqual(store.told(), ([2, 3, 4, 7, 1, 2, 8], [4, 5], 6 + 5))

    def test_the_order_of_the_deeds(self):
        store = Spied([1, 2, 3, 4, 5, 6])
        go_on(store, self.paper)
        self.assertEqual(store.deeds, [
            ("read", 0, 1), ("write", 4, 1), ("read", 1, 2), ("write", 5, 2), ("mark", 1),
            ("read", 1, 2), ("write", 0, 2), ("mark", 2),
            ("read", 2, 3), ("write", 1, 3), ("mark", 3),
            ("read", 3, 4), ("write", 2, 4), ("mark", 4),
            ("write", 3, 7), ("mark", 5)])

    def test_from_each_piece_on(self):
        room = [1, 2, 3, 4, 5, 6]
        for noted in range(8):
            store = Store(room)
            store.mark(noted)
            self.assertEqual(go_on(store, self.paper), max(5 - noted, 0))
            self.assertEqual(store.noted(), max(5, noted))
            cells = list(room)
            for row, piece in pieces_of(self.paper)[noted:]:
                for cell in piece:
                    cells[cell] = cells[row[2] + cell - row[1]] if row[0] == "take" else row[2][cell - row[1]]
            writes = sum(len(piece) + 1 for row, piece in pieces_of(self.paper)[noted:])
            self.assertEqual((store.told()[0], store.told()[2]), (cells, writes + 1))

    def test_far_beyond_the_count_nothing_is_done(self):
        store = Store([1, 2, 3, 4, 5, 6])
        store.mark(LARGE)
        self.assertEqual(go_on(store, self.paper), 0)
        self.assertEqual(store.told(), ([1, 2, 3, 4, 5, 6], [0, LARGE], 1))

    def test_done_again_nothing_is_left(self):
        store = Store([1, 2, 3, 4, 5, 6])
        go_on(store, self.paper)
        told = store.told()
        self.assertEqual(go_on(store, self.paper), 0)
        self.assertEqual(store.told(), told)

    def test_papers_without_pieces(self):
        for paper in ((0, 0, ()), (3, 0, ()), (3, 3, (("take", 0, 0, 3),)), (3, 2, (("take", 1, 1, 1), ("take", 0, 0, 1)))):
            store = Store([1, 2, 3], lambda count: ())
            self.assertEqual(go_on(store, paper), 0)
            self.assertEqual(store.told(), ([1, 2, 3], [0, 0], 0))

    def test_one_lost_note(self):
        store = Store([1, 2, 3, 4, 5, 6], Falls({1: (3,)}))
        store.mark(2)
        with self.assertRaises(Fallen):
            store.mark(3)
        self.assertEqual(go_on(store, self.paper), 3)
        self.assertEqual(store.told()[1], [4, 5])

    def test_a_paper_that_reads_late_is_done_as_it_stands(self):
        late = (2, 2, (("take", 0, 1, 1), ("take", 1, 0, 1)))
        store = Store([1, 2])
        self.assertEqual(go_on(store, late), 2)
        self.assertEqual(store.told(), ([2, 2], [2, 1], 4))

    def test_small_papers_without_fall(self):
        for paper in faultless_papers(4, 4):
            room = room_for(paper)
            store = Store(room)
            pieces = pieces_of(paper)
            self.assertEqual(go_on(store, paper), len(pieces))
            self.assertEqual(store.told()[0], room_after(paper), paper)
            self.assertEqual(store.told()[2], sum(len(cells) + 1 for row, cells in pieces))
            self.assertEqual(store.noted(), len(pieces))

    def test_large_papers(self):
        for paper in ((300, 299, (("take", 0, 1, 299),)), (299, 300, (("take", 1, 0, 299), ("put", 0, (5,)))),
                      (300, 300, (("put", 0, tuple(range(300))),)), (300, 150, (("take", 0, 150, 150),))):
            store = Store(room_for(paper, 0))
            go_on(store, paper)
            self.assertEqual(store.told()[0], room_after(paper, 0))


class TooSmallRooms(unittest.TestCase):
    def refused(self, store, paper):
        with self.assertRaises(OutOfRoom) as caught:
            go_on(store, paper)
        return caught.exception.at

    def test_fewer_cells_than_either_length(self):
        for size, paper, at in ((2, (3, 1, (("take", 0, 2, 1),)), 3), (2, (1, 3, (("put", 0, (4, 5, 6)),)), 3),
                                (0, (1, 0, ()), 1), (0, (0, 1, (("put", 0, (4,)),)), 1), (1, (2, 3, ()), 3),
                                (1, (3, 2, ()), 3), (299, (0, 300, ()), 300)):
            falls = Falls({0: (), 1: (5,)})
            store = Store([0] * size, falls)
            self.assertEqual(self.refused(store, paper), at)
            self.assertEqual(store.told(), ([0] * size, [0, 0], 0))
            self.assertEqual(falls.called, [])

    def test_just_as_many_cells(self):
        store = Store([4, 5, 6])
        self.assertEqual(go_on(store, (3, 1, (("take", 0, 2, 1),))), 1)
        self.assertEqual(store.told()[0], [6, 5, 6])

    def test_ahead_of_all_else(self):
        store = Store([4, 5])
        self.assertEqual(self.refused(store, (3, 1, (["no row"], ("take", 0, 7, 1)))), 3)
        # Where nothing is left, too.
        store.mark(9)
        self.assertEqual(self.refused(store, (1, 3, (("put", 0, (4, 5, 6)),))), 3)
        self.assertEqual(store.told(), ([4, 5], [0, 9], 1))

    def test_a_refusal_changes_nothing(self):
        for rows, at in (((("put", 0, (8,)), ("put", 2, (8, 9))), 3), ((("put", 0, (8,)), ("take", 1, 5, 1)), 5),
                         ((("put", 0, (8,)), ("take", 4, 0, 2)), 4), ((("take", 0, 1, 4),), 3)):
            falls = Falls({})
            store = Store([4, 5, 6], falls)
            self.assertEqual(self.refused(store, (3, 3, rows)), at)
            self.assertEqual(store.told(), ([4, 5, 6], [0, 0], 0))
            self.assertEqual(falls.called, [])
        store = Store([4, 5, 6])
        with self.assertRaises(NoRow):
            go_on(store, (3, 3, (("put", 0, (8,)), ("put", 0, ()))))
        self.assertEqual(store.told(), ([4, 5, 6], [0, 0], 0))

    def test_what_was_done_ahead_is_not_asked_for_again(self):
        store = Store([4, 5, 6])
        store.mark(1)
        self.assertEqual(go_on(store, (3, 3, (("put", 7, (8,)), ("put", 0, (9,))))), 1)
        self.assertEqual(store.told(), ([9, 5, 6], [2, 1], 3))


class Fallings(unittest.TestCase):
    def comes_to_the_end(self, paper, answers, most=400):
        """Goes on behind each fall; tells how many falls there were."""
        room = room_for(paper)
        elder = room[:paper[0]]
        store = Spied(room, Falls(dict(answers)))
        fallen = []
        for turn in range(most):
            ahead = store.told()[2]
            left = len(pieces_of(paper)) - store.noted()
            try:
                self.assertEqual(go_on(store, paper), left)
                break
            except Fallen as fall:
                fallen.append(fall.count)
                self.assertEqual(store.told()[2], fall.count + 1)
                self.assertGreaterEqual(fall.count, ahead)
        self.assertEqual(store.told()[0], room_after(paper), (paper, answers))
        self.assertEqual(store.noted(), len(pieces_of(paper)))
        self.assertEqual(fallen, sorted(count for count in answers if count < store.told()[2]))
        for deed in store.deeds:
            if deed[0] == "read":
                self.assertEqual(deed[2], elder[deed[1]], (paper, answers))
        return len(fallen)

    def writes(self, paper):
        return sum(len(cells) + 1 for row, cells in pieces_of(paper))

    def test_one_fall_leaves_what_was_written_ahead(self):
        paper = (3, 3, (("take", 0, 1, 2), ("put", 2, (7,))))
        states = [([1, 2, 3], [0, 0]), ([2, 2, 3], [0, 0]), ([2, 2, 3], [0, 1]), ([2, 3, 3], [0, 1]),
                  ([2, 3, 3], [2, 1]), ([2, 3, 7], [2, 1]), ([2, 3, 7], [2, 3])]
        torn = [([-8, 2, 3], [0, 0]), ([2, 2, 3], [0, None]), ([2, -8, 3], [0, 1]), ([2, 3, 3], [None, 1]),
                ([2, 3, -8], [2, 1]), ([2, 3, 7], [2, None])]
        for count in range(6):
            for answer, state in (((), states[count]), ((-8,), torn[count])):
                store = Store([1, 2, 3], Falls({count: answer}))
                with self.assertRaises(Fallen) as caught:
                    go_on(store, paper)
                self.assertEqual(caught.exception.count, count)
                self.assertEqual(store.told(), state + (count + 1,))
                noted = max(note for note in state[1] if note is not None)
                self.assertEqual(go_on(store, paper), 3 - noted)
                self.assertEqual(store.told()[:2], states[6])

    def test_one_fall_at_each_write_of_small_papers(self):
        for paper in faultless_papers(4, 3):
            for count in range(self.writes(paper)):
                for answer in ((), (103,), (-9,), (LARGE,)):
                    self.assertEqual(self.comes_to_the_end(paper, {count: answer}), 1)

    def test_several_falls_of_small_papers(self):
        for paper in itertools.islice(faultless_papers(3, 3), 0, None, 5):
            writes = self.writes(paper)
            for one, other in itertools.combinations(range(writes + 3), 2):
                self.comes_to_the_end(paper, {one: (), other: (101,)})
                self.comes_to_the_end(paper, {one: (0,), other: ()})
                self.comes_to_the_end(paper, {one: (100,), other: (-LARGE,)})

    def test_many_falls_of_papers_by_chance(self):
        chance = random.Random(5)
        for paper in random_faultless(chance, 300, 14):
            answers = {}
            for count in range(120):
                if chance.randrange(4) == 0:
                    answers[count] = chance.choice(((), (chance.randrange(99, 115),), (0,)))
            self.comes_to_the_end(paper, answers)

    def test_falls_at_every_write_but_the_last_ones(self):
        paper = (5, 6, (("take", 2, 0, 4), ("put", 0, (8, 9))))
        self.assertIsNone(judge(paper))
        for many in (1, 10, 50):
            answers = {count: (count,) if count % 3 else () for count in range(many)}
            self.assertEqual(self.comes_to_the_end(paper, answers), many)

    def test_a_fall_behind_each_piece(self):
        paper = (9, 12, (("take", 3, 2, 7), ("put", 10, (8, 9)), ("take", 0, 1, 2), ("put", 2, (5,))))
        self.assertIsNone(judge(paper))
        # The writes run on over the falls: a count for the fall itself, and for what is done again.
        for step in range(1, 9):
            answers = {count: () for count in range(step, 200, step + 3)}
            self.comes_to_the_end(paper, answers)

    def test_a_late_row_ends_otherwise(self):
        late = (3, 3, (("take", 0, 1, 2), ("take", 2, 0, 1)))
        self.assertEqual(judge(late), ("late", 1, 0))
        store = Store([1, 2, 3])
        go_on(store, late)
        self.assertNotEqual(store.told()[0], meant(late, [1, 2, 3]))


if __name__ == "__main__":
    unittest.main()
