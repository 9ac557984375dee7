import itertools
import random
import unittest

from oneroom.judge import judge
from oneroom.papers import meant
from oneroom.rows import row_of

LARGE = 10 ** 60 - 1

NO_ROWS = (
    None, 0, True, "take", "take 0 0 1", [], ["take", 0, 0, 1], ["put", 0, (1,)], (), ("take",), ("put",), ("take", 0, 0),
    ("take", 0, 0, 1, 1), ("take", 0, 0, 0), ("take", -1, 0, 1), ("take", 0, -1, 1), ("take", 0, 0, -1),
    ("take", True, 0, 1), ("take", 0, False, 1), ("take", 0, 0, True), ("take", "0", 0, 1), ("Take", 0, 0, 1),
    ("move", 0, 0, 1), ("put", 0, ()), ("put", 0, [1]), ("put", 0, 1), ("put", -1, (1,)), ("put", False, (1,)),
    ("put", 0, (True,)), ("put", 0, ("1",)), ("put", 0, (None,)), ("put", 0, (10 ** 60,)), ("put", 0, (1,), 1),
    ("puts", 0, (1,)), {"take": 1}, (("take", 0, 0, 1),),
)


def cells_covered(told):
    count = told[3] if told[0] == "take" else len(told[2])
    return set(range(told[1], told[1] + count))


def cells_written(told):
    return set() if told[0] == "take" and told[1] == told[2] else cells_covered(told)


def cells_read(told):
    if told[0] == "put" or told[1] == told[2]:
        return set()
    return set(range(told[2], told[2] + told[3]))


def fault_by_looking(paper):
    """By the document's own words, of a paper of fitting sizes whose rows are rows."""
    old, new, rows = paper
    for k, told in enumerate(rows):
        if (told[0] == "take" and told[2] + told[3] > old) or max(cells_covered(told)) >= new:
            return ("row", k)
    for k, told in enumerate(rows):
        twice = cells_covered(told) & set().union(*map(cells_covered, rows[:k]))
        if twice:
            return ("twice", k, min(twice))
    lacks = set(range(new)) - set().union(*map(cells_covered, rows))
    if lacks:
        return ("lacks", min(lacks))
    for k, told in enumerate(rows):
        late = cells_read(told) & set().union(*map(cells_written, rows[:k]))
        if late:
            return ("late", k, min(late))
    return None


def small_papers():
    for old, new in itertools.product(range(4), repeat=2):
        rows = [("take", to, start, count) for to in range(new) for start in range(old)
                for count in range(1, min(old - start, new - to) + 1)]
        rows = rows + [("put", to, (7,) * count) for to in range(new) for count in range(1, new - to + 1)]
        for many in range(4):
            for chosen in itertools.product(rows, repeat=many):
                yield (old, new, chosen)


def papers_out_of_bounds():
    rows = [("take", to, start, count) for to in range(3) for start in range(3) for count in (1, 2)]
    rows = rows + [("put", to, (7,) * count) for to in range(3) for count in (1, 2)]
    for old, new in itertools.product(range(3), repeat=2):
        for many in range(3):
            for chosen in itertools.product(rows, repeat=many):
                yield (old, new, chosen)


def larger_papers(how_many):
    """Papers that cover each cell just once, of rows in any order."""
    chance = random.Random(22)
    for turn in range(how_many):
        old, new = chance.randrange(1, 13), chance.randrange(1, 13)
        rows, to = [], 0
        while to < new:
            start = chance.choice((chance.randrange(old), min(to, old - 1)))
            count = chance.randrange(1, min(old - start, new - to, 5) + 1)
            rows.append(("put", to, (7,) * count) if chance.randrange(4) == 0 else ("take", to, start, count))
            to = to + count
        chance.shuffle(rows)
        yield (old, new, tuple(rows))


def do_in_one_room(paper, elder):
    """The room's first cells behind all rows, and all (row number, cell, sign, cell that got it) that was read."""
    old, new, rows = paper
    room = list(elder) + [-5] * (new - old)
    read = []
    for k, told in enumerate(rows):
        row = row_of(told)
        for piece in row.pieces():
            for cell in piece:
                asked = []
                room[cell] = row.sign_for(cell, lambda at: asked.append(at) or room[at])
                read.extend([(k, at, room[cell], cell) for at in asked])
    return room[:new], read


class Sizes(unittest.TestCase):
    def test_lengths_from_0_to_300(self):
        self.assertIsNone(judge((0, 0, ())))
        self.assertIsNone(judge((300, 0, ())))
        self.assertIsNone(judge((300, 300, (("take", 0, 0, 300),))))
        self.assertIsNone(judge((0, 300, (("put", 0, (1,) * 300),))))

    def test_lengths_beyond(self):
        for length in (-1, 301, -LARGE, LARGE, 10 ** 80):
            self.assertEqual(judge((length, 0, ())), ("size",))
            self.assertEqual(judge((0, length, ())), ("size",))
            self.assertEqual(judge((length, length, ())), ("size",))
        self.assertEqual(judge((301, 300, (("take", 0, 0, 300),))), ("size",))
        self.assertEqual(judge((0, 301, (("put", 0, (1,) * 301),))), ("size",))

    def test_lengths_that_are_no_whole_numbers(self):
        for length in (True, False, None, "0", "", "3", 0.0, 1.5, (), (1,), [], {}):
            self.assertEqual(judge((length, 0, ())), ("size",), length)
            self.assertEqual(judge((0, length, ())), ("size",), length)
        self.assertEqual(judge((True, 1, (("put", 0, (1,)),))), ("size",))
        self.assertEqual(judge((1, True, (("put", 0, (1,)),))), ("size",))

    def test_300_rows_and_301(self):
        rows = tuple([("put", at, (1,)) for at in range(300)])
        self.assertIsNone(judge((0, 300, rows)))
        self.assertEqual(judge((0, 300, rows + (("put", 0, (1,)),))), ("size",))
        self.assertEqual(judge((0, 300, rows[:299] + (("put", 0, (1,)),))), ("twice", 299, 0))


class Rows(unittest.TestCase):
    def test_rows_that_are_none(self):
        for thing in NO_ROWS:
            self.assertEqual(judge((3, 3, (thing,))), ("row", 0), repr(thing))
            self.assertEqual(judge((3, 3, (("take", 0, 0, 3), thing))), ("row", 1), repr(thing))
            self.assertEqual(judge((3, 3, (("take", 0, 0, 1), thing, thing))), ("row", 1), repr(thing))

    def test_beyond_the_old_length(self):
        self.assertIsNone(judge((5, 2, (("take", 0, 3, 2),))))
        self.assertEqual(judge((5, 3, (("take", 0, 3, 3),))), ("row", 0))
        self.assertEqual(judge((5, 1, (("take", 0, 5, 1),))), ("row", 0))
        self.assertEqual(judge((0, 1, (("take", 0, 0, 1),))), ("row", 0))
        self.assertEqual(judge((5, 1, (("take", 0, LARGE, 1),))), ("row", 0))

    def test_a_take_that_stays_beyond_the_old_length(self):
        self.assertIsNone(judge((4, 4, (("take", 0, 0, 4),))))
        self.assertEqual(judge((3, 4, (("take", 0, 0, 4),))), ("row", 0))

    def test_cells_from_new_on(self):
        self.assertEqual(judge((5, 3, (("put", 0, (1,)), ("take", 1, 3, 2)))), None)
        self.assertEqual(judge((5, 3, (("put", 0, (1,)), ("take", 2, 3, 2)))), ("row", 1))
        self.assertIsNone(judge((5, 3, (("put", 0, (1, 1, 1)),))))
        self.assertEqual(judge((5, 3, (("put", 1, (1, 1, 1)),))), ("row", 0))
        self.assertEqual(judge((5, 3, (("put", 3, (1,)),))), ("row", 0))
        self.assertEqual(judge((5, 3, (("put", 2, (1,)),))), ("lacks", 0))
        self.assertEqual(judge((5, 0, (("put", 0, (1,)),))), ("row", 0))
        self.assertEqual(judge((5, 3, (("put", LARGE, (1,)),))), ("row", 0))
        self.assertEqual(judge((300, 300, (("take", 299, 299, 2),))), ("row", 0))

    def test_counts_of_sixty_figures(self):
        self.assertEqual(judge((5, 3, (("take", 0, 1, LARGE),))), ("row", 0))
        self.assertEqual(judge((5, 3, (("take", 0, 0, LARGE), None))), ("row", 0))

    def test_the_first_one_is_told(self):
        self.assertEqual(judge((3, 3, (("take", 0, 0, 3), ("put", 3, (1,)), None))), ("row", 1))
        self.assertEqual(judge((3, 3, (("take", 0, 0, 3), None, ("put", 3, (1,))))), ("row", 1))
        self.assertEqual(judge((3, 3, (("take", 0, 3, 1), None))), ("row", 0))


class TwiceAndLacks(unittest.TestCase):
    def test_twice(self):
        self.assertEqual(judge((3, 3, (("take", 0, 0, 3), ("put", 2, (1,))))), ("twice", 1, 2))
        self.assertEqual(judge((3, 3, (("put", 2, (1,)), ("take", 0, 0, 3)))), ("twice", 1, 2))
        self.assertEqual(judge((3, 3, (("take", 0, 0, 2), ("take", 1, 1, 2)))), ("twice", 1, 1))
        self.assertEqual(judge((3, 3, (("put", 0, (1, 2, 3)), ("put", 0, (1, 2, 3))))), ("twice", 1, 0))

    def test_twice_the_first_row_and_its_least_cell(self):
        rows = (("put", 4, (1,)), ("put", 2, (1,)), ("put", 0, (1,) * 6), ("put", 0, (1,)))
        self.assertEqual(judge((0, 6, rows)), ("twice", 2, 2))
        rows = (("put", 0, (1,)), ("put", 3, (1, 1)), ("put", 4, (1,)), ("put", 0, (1,)))
        self.assertEqual(judge((0, 6, rows)), ("twice", 2, 4))

    def test_rows_that_touch(self):
        self.assertIsNone(judge((0, 4, (("put", 2, (1, 1)), ("put", 0, (1, 1))))))

    def test_lacks(self):
        self.assertEqual(judge((3, 3, ())), ("lacks", 0))
        self.assertEqual(judge((3, 3, (("take", 0, 0, 2),))), ("lacks", 2))
        self.assertEqual(judge((3, 3, (("take", 1, 1, 2),))), ("lacks", 0))
        self.assertEqual(judge((0, 6, (("put", 3, (1,)), ("put", 0, (1, 1))))), ("lacks", 2))
        self.assertEqual(judge((0, 300, (("put", 0, (1,) * 299),))), ("lacks", 299))
        self.assertIsNone(judge((3, 0, ())))


class Late(unittest.TestCase):
    def test_parts_changed_about(self):
        self.assertEqual(judge((2, 2, (("take", 0, 1, 1), ("take", 1, 0, 1)))), ("late", 1, 0))
        self.assertEqual(judge((2, 2, (("take", 1, 0, 1), ("take", 0, 1, 1)))), ("late", 1, 1))

    def test_behind_a_put(self):
        self.assertEqual(judge((2, 3, (("put", 0, (9,)), ("take", 1, 0, 2)))), ("late", 1, 0))
        self.assertIsNone(judge((2, 3, (("take", 1, 0, 2), ("put", 0, (9,))))))

    def test_the_first_row_and_its_least_cell(self):
        rows = (("put", 3, (9, 9)), ("take", 0, 2, 3), ("take", 5, 3, 2))
        self.assertEqual(judge((7, 7, rows)), ("late", 1, 3))
        rows = (("put", 4, (9,)), ("put", 2, (9,)), ("take", 0, 5, 1), ("take", 5, 1, 5), ("take", 1, 3, 1),
                ("take", 3, 4, 1), ("put", 10, (9,)))
        self.assertEqual(judge((11, 11, rows[:3] + (("take", 5, 0, 5),) + rows[4:])), ("late", 3, 0))
        self.assertEqual(judge((11, 11, rows)), ("late", 3, 2))

    def test_a_take_may_read_what_it_writes_itself(self):
        self.assertIsNone(judge((4, 4, (("take", 0, 1, 3), ("put", 3, (0,))))))
        self.assertIsNone(judge((4, 5, (("take", 1, 0, 4), ("put", 0, (0,))))))

    def test_takes_that_stay_write_and_read_nothing(self):
        self.assertIsNone(judge((4, 6, (("take", 0, 0, 4), ("take", 4, 0, 2)))))
        self.assertIsNone(judge((4, 6, (("take", 4, 0, 2), ("take", 0, 0, 4)))))
        self.assertIsNone(judge((3, 3, (("put", 0, (1,)), ("take", 1, 1, 2)))))

    def test_cells_behind_the_newer_text_are_never_late(self):
        self.assertIsNone(judge((6, 2, (("take", 0, 4, 1), ("take", 1, 5, 1)))))


class Order(unittest.TestCase):
    # Each of these has the fault of its name and all the later ones.
    def test_size_ahead_of_row_ahead_of_twice_ahead_of_lacks_ahead_of_late(self):
        late = (("put", 0, (9,)), ("take", 1, 0, 1))
        self.assertEqual(judge((2, 2, late)), ("late", 1, 0))
        self.assertEqual(judge((2, 3, late)), ("lacks", 2))
        self.assertEqual(judge((2, 3, late + (("put", 1, (9,)),))), ("twice", 2, 1))
        self.assertEqual(judge((2, 3, late + (("put", 1, (9,)), None))), ("row", 3))
        self.assertEqual(judge((2, 301, late + (("put", 1, (9,)), None))), ("size",))
        self.assertEqual(judge((True, 3, late + (("put", 1, (9,)), None))), ("size",))
        self.assertEqual(judge((2, 3, late + (None,) * 299)), ("size",))
        self.assertEqual(judge((2, 3, late + (None,) * 298)), ("row", 2))

    def test_a_later_row_does_not_go_ahead_of_an_earlier_fault(self):
        self.assertEqual(judge((2, 3, (None, ("put", 0, (9,)), ("put", 0, (9,))))), ("row", 0))
        self.assertEqual(judge((2, 3, (("put", 0, (9,)), ("put", 0, (9,)), None))), ("row", 2))
        self.assertEqual(judge((3, 3, (("put", 0, (9,)), ("take", 1, 0, 2), ("put", 2, (9,))))), ("twice", 2, 2))


class ManyPapers(unittest.TestCase):
    def check(self, paper):
        fault = judge(paper)
        self.assertEqual(fault, fault_by_looking(paper), paper)
        if fault is not None and fault[0] != "late":
            return fault[0]
        elder = list(range(100, 100 + paper[0]))
        newer = meant(paper, elder)
        room, read = do_in_one_room(paper, elder)
        if fault is None:
            self.assertEqual(room, newer, paper)
            self.assertTrue(all(sign == elder[at] for row, at, sign, cell in read), paper)
            return None
        hits = [(sign, cell) for row, at, sign, cell in read if (row, at) == fault[1:]]
        self.assertEqual(len(hits), 1, paper)
        self.assertNotEqual(hits[0][0], elder[fault[2]], paper)
        self.assertNotEqual(room[hits[0][1]], newer[hits[0][1]], paper)
        return "late"

    def test_small_papers(self):
        seen = {self.check(paper) for paper in small_papers()}
        self.assertEqual(seen, {None, "twice", "lacks", "late"})

    def test_small_papers_out_of_bounds(self):
        seen = {self.check(paper) for paper in papers_out_of_bounds()}
        self.assertEqual(seen, {None, "row", "twice", "lacks", "late"})

    def test_larger_papers(self):
        seen = [self.check(paper) for paper in larger_papers(6000)]
        self.assertEqual(set(seen), {None, "late"})
        self.assertGreater(seen.count(None), 300)

    def test_a_paper_without_fault_comes_out_right_for_every_elder_text(self):
        for paper in larger_papers(400):
            if judge(paper) is None and paper[0] <= 6:
                for elder in itertools.product((0, 7), repeat=paper[0]):
                    self.assertEqual(do_in_one_room(paper, elder)[0], meant(paper, list(elder)), paper)


class Kinds(unittest.TestCase):
    def test_a_fault_is_a_tuple(self):
        for paper in ((-1, 0, ()), (0, 0, (None,)), (0, 1, ()), (0, 1, (("put", 0, (1,)),) * 2)):
            self.assertIs(type(judge(paper)), tuple)

    def test_asked_again_the_same_is_told(self):
        row = ["put", 0, (1,)]
        paper = (0, 1, (("put", 0, (1,)), row))
        self.assertEqual(judge(paper), ("row", 1))
        self.assertEqual(row, ["put", 0, (1,)])
        self.assertEqual(judge(paper), ("row", 1))


if __name__ == "__main__":
    unittest.main()
