import copy
import random
import unittest

from oneroom.banks import Board
from oneroom.doer import pieces_of
from oneroom.errors import Down, Fallen, Faulty, NoTrial, NoWayBack, OnTrial, RoomError, Unfit
from oneroom.judge import judge
from oneroom.maker import made
from oneroom.papers import meant, plain

LARGE = 10 ** 60 - 1


class Falls:
    """Answers by a dict of counts, None elsewhere, and keeps what it was called with."""

    def __init__(self, answers):
        self.answers = answers
        self.called = []

    def __call__(self, count):
        self.called.append(count)
        return self.answers.get(count)


class Watch:
    """A fall that keeps what the board tells ahead of each write."""

    def __init__(self):
        self.board = None
        self.seen = []

    def __call__(self, count):
        self.seen.append(self.board.told() + (self.board.text(0), self.board.text(1)))


class BoardByWords:
    """The document's own words, as a list of writes for each deed: (kind, list or dict, place, value)."""

    def __init__(self, text, size, fall):
        self.size, self.fall, self.asked = size, fall, 0
        self.cells = [list(text) + [0] * (size - len(text)), [0] * size]
        self.notes = [[0, 0], [0, 0]]
        self.lengths, self.marks = [len(text), 0], ["good", "bad"]
        self.one = {"marker": 0, "counter": 0, "runs": None}

    def told(self):
        return (self.one["marker"], self.marks, self.lengths, self.one["counter"], self.one["runs"])

    def text(self, bank):
        return self.cells[bank][:self.lengths[bank]]

    def do(self, steps):
        """Gives back what the steps come to, a word for a refusal, or the count of a fall."""
        try:
            while True:
                kind, kept, at, value = next(steps)
                count = self.asked
                self.asked = count + 1
                answer = self.fall(count)
                if answer is None or (len(answer) == 1 and kind == "board"):
                    kept[at] = value
                elif len(answer) == 1:
                    kept[at] = answer[0] if kind == "cell" else None
                if answer is not None:
                    self.one["runs"] = None
                    return ("Fallen", count)
        except StopIteration as end:
            return end.value

    def start(self):
        one, other = self.one, 1 - self.one["marker"]
        one["runs"] = None
        runs = one["marker"]
        if self.marks[other] == "trial" and one["counter"] > 0:
            yield ("board", one, "counter", one["counter"] - 1)
            runs = other
        elif self.marks[other] == "trial":
            yield ("board", self.marks, other, "bad")
        one["runs"] = runs
        return runs

    def update(self, paper, total, tries):
        other = 1 - self.one["marker"]
        if self.one["runs"] is None:
            return ("Down",)
        if self.marks[other] == "trial":
            return ("OnTrial",)
        if judge(paper) is not None:
            return ("Faulty",)
        if paper[0] > self.size or paper[1] > self.size:
            return ("Unfit",)
        if self.marks[other] != "open" and paper[0] > 0:
            if self.marks[other] != "good" or self.lengths[other] != paper[0]:
                return ("Unfit",)
        if self.marks[other] != "open":
            yield ("note", self.notes[other], 0, 0)
            yield ("note", self.notes[other], 1, 0)
            yield ("board", self.marks, other, "open")
        cells, notes = self.cells[other], self.notes[other]
        first = max([note for note in notes if note is not None] + [0])
        for number, (row, piece) in list(enumerate(pieces_of(paper)))[first:]:
            for cell in piece:
                sign = cells[row[2] + cell - row[1]] if row[0] == "take" else row[2][cell - row[1]]
                yield ("cell", cells, cell, sign)
            yield ("note", notes, (number + 1) % 2, number + 1)
        yield ("board", self.lengths, other, paper[1])
        if sum(self.text(other)) != total:
            yield ("board", self.marks, other, "bad")
            return False
        yield ("board", self.one, "counter", tries)
        yield ("board", self.marks, other, "trial")
        return True

    def fine(self):
        other = 1 - self.one["marker"]
        if self.one["runs"] is None:
            return ("Down",)
        if self.one["runs"] != other or self.marks[other] != "trial":
            return ("NoTrial",)
        yield ("board", self.marks, other, "good")
        yield ("board", self.one, "marker", other)

    def go_back(self):
        other = 1 - self.one["marker"]
        if self.one["runs"] is None:
            return ("Down",)
        if self.marks[other] != "good":
            return ("NoWayBack",)
        yield ("board", self.one, "marker", other)
        self.one["runs"] = None


def outcome(deed, *words):
    try:
        return deed(*words)
    except Fallen as fallen:
        return ("Fallen", fallen.count)
    except RoomError as refusal:
        return (type(refusal).__name__,)


def running(text=(1, 2, 3), size=6, fall=None):
    board = Board(list(text), size, fall)
    board.start()
    return board


def on_trial(text=(1, 2, 3), size=6, newer=(4, 5), tries=2, fall=None):
    board = running(text, size, fall)
    board.update(plain(0, list(newer)), sum(newer), tries)
    return board


def both_good(fall=None):
    """Bank 0 holds [1, 2, 3], bank 1 [4, 5] and is marked; it runs."""
    board = on_trial(fall=fall)
    board.start()
    board.fine()
    return board


class BoardCase(unittest.TestCase):
    def assert_refused(self, kind, deed, *words):
        with self.assertRaises(kind) as caught:
            deed(*words)
        return caught.exception

    def assert_refused_unchanged(self, kind, board, deed, *words):
        ahead = (board.told(), board.text(0), board.text(1))
        refusal = self.assert_refused(kind, deed, *words)
        self.assertEqual((board.told(), board.text(0), board.text(1)), ahead)
        return refusal


class Making(BoardCase):
    def test_told_of_a_new_board(self):
        board = Board([1, 2, 3], 6)
        self.assertEqual(board.told(), (0, ["good", "bad"], [3, 0], 0, None))
        self.assertEqual((board.text(0), board.text(1)), ([1, 2, 3], []))
        self.assertEqual([type(part) for part in board.told()], [int, list, list, int, type(None)])
        self.assertIs(type(board.told()), tuple)

    def test_edges_of_the_size(self):
        self.assertEqual(Board([], 0).told(), (0, ["good", "bad"], [0, 0], 0, None))
        self.assertEqual(Board([5], 1, None).text(0), [5])
        self.assertEqual(Board([-1] * 300, 300).text(0), [-1] * 300)
        self.assert_refused(Unfit, Board, [5], 0)
        self.assert_refused(Unfit, Board, [5, 6, 7], 2)
        self.assert_refused(Unfit, Board, [0] * 300, 299)

    def test_making_asks_for_no_write(self):
        falls = Falls({0: ()})
        Board([1, 2], 3, falls)
        self.assertEqual(falls.called, [])

    def test_own_lists(self):
        text = [1, 2, 3]
        board = Board(text, 6)
        text[0] = 9
        text.append(9)
        told = board.told()
        told[1][0] = "bad"
        told[2][0] = 1
        board.text(0).append(7)
        board.text(0)[0] = 7
        self.assertEqual(board.told(), (0, ["good", "bad"], [3, 0], 0, None))
        self.assertEqual(board.text(0), [1, 2, 3])
        board.start()
        board.update(plain(0, [4, 5]), 9, 1)
        board.start()
        board.fine()
        self.assertEqual(text, [9, 2, 3, 9])
        self.assertEqual(told[2], [1, 0])

    def test_the_cells_behind_the_text(self):
        # An open bank takes any paper: so one can look at cells that no text of it ever had.
        falls = Falls({})
        board = running((), 3, falls)
        falls.answers[3] = ()
        self.assert_refused(Fallen, board.update, plain(0, [7]), 7, 1)
        board.start()
        self.assertTrue(board.update((3, 3, (("take", 0, 0, 3),)), 0, 1))
        self.assertEqual(board.text(1), [0, 0, 0])
        board.start()
        board.fine()
        falls.answers[falls.called[-1] + 4] = ()
        self.assert_refused(Fallen, board.update, plain(0, [7]), 7, 1)
        board.start()
        self.assertTrue(board.update((3, 3, (("take", 0, 0, 3),)), 0, 1))
        self.assertEqual(board.text(0), [0, 0, 0])


class Starts(BoardCase):
    def test_the_marked_bank_where_nothing_is_on_trial(self):
        falls = Falls({})
        board = Board([1, 2, 3], 6, falls)
        self.assertEqual(board.start(), 0)
        self.assertEqual(board.told(), (0, ["good", "bad"], [3, 0], 0, 0))
        self.assertEqual(board.start(), 0)
        self.assertEqual(falls.called, [])

    def test_the_other_bank_good_or_open(self):
        board = both_good()
        self.assertEqual(board.start(), 1)
        self.assertEqual(board.told(), (1, ["good", "good"], [3, 2], 1, 1))
        falls = Falls({4: ()})
        board = running(fall=falls)
        self.assert_refused(Fallen, board.update, plain(0, [4, 5]), 9, 2)
        self.assertEqual(board.told()[1], ["good", "open"])
        self.assertEqual(board.start(), 0)
        self.assertEqual(board.told(), (0, ["good", "open"], [3, 0], 0, 0))

    def test_a_trial_runs_as_often_as_its_tries(self):
        for tries in range(4):
            falls = Falls({})
            board = on_trial(tries=tries, fall=falls)
            asked = len(falls.called)
            for left in reversed(range(tries)):
                self.assertEqual(board.start(), 1)
                self.assertEqual(board.told(), (0, ["good", "trial"], [3, 2], left, 1))
            self.assertEqual(board.start(), 0)
            self.assertEqual(board.told(), (0, ["good", "bad"], [3, 2], 0, 0))
            self.assertEqual(board.start(), 0)
            # One write for each start of the trial, and one for the mark.
            self.assertEqual(len(falls.called), asked + tries + 1)

    def test_a_trial_in_bank_0(self):
        board = both_good()
        self.assertTrue(board.update((3, 2, (("take", 0, 1, 2),)), 5, 1))
        self.assertEqual(board.told(), (1, ["trial", "good"], [2, 2], 1, 1))
        self.assertEqual(board.start(), 0)
        self.assertEqual(board.start(), 1)
        self.assertEqual(board.told(), (1, ["bad", "good"], [2, 2], 0, 1))

    def test_a_fall_at_the_counter(self):
        for answer, left in (((), 2), ((8,), 1)):
            falls = Falls({})
            board = on_trial(tries=2, fall=falls)
            falls.answers[len(falls.called)] = answer
            fallen = self.assert_refused(Fallen, board.start)
            self.assertEqual(fallen.count, len(falls.called) - 1)
            self.assertEqual(board.told(), (0, ["good", "trial"], [3, 2], left, None))
            self.assertEqual(board.start(), 1)

    def test_a_fall_at_the_mark(self):
        for answer, mark in (((), "trial"), ((8,), "bad")):
            falls = Falls({})
            board = on_trial(tries=0, fall=falls)
            falls.answers[len(falls.called)] = answer
            self.assert_refused(Fallen, board.start)
            self.assertEqual(board.told(), (0, ["good", mark], [3, 2], 0, None))
            self.assertEqual(board.start(), 0)
            self.assertEqual(board.told()[1], ["good", "bad"])

    def test_nothing_runs_as_it_writes(self):
        for tries, runs in ((1, 1), (0, 0)):
            watch = Watch()
            watch.board = Board([1, 2, 3], 6, watch)
            watch.board.start()
            watch.board.update(plain(0, [4, 5]), 9, tries)
            self.assertEqual(watch.board.told()[4], 0)
            watch.seen = []
            self.assertEqual(watch.board.start(), runs)
            self.assertEqual([seen[:5] for seen in watch.seen], [(0, ["good", "trial"], [3, 2], tries, None)])


class Updates(BoardCase):
    def test_into_the_bad_bank(self):
        board = running()
        self.assertIs(board.update(plain(0, [4, 5]), 9, 2), True)
        self.assertEqual(board.told(), (0, ["good", "trial"], [3, 2], 2, 0))
        self.assertEqual((board.text(0), board.text(1)), ([1, 2, 3], [4, 5]))

    def test_of_the_good_bank_s_text(self):
        board = both_good()
        self.assertIs(board.update((3, 4, (("take", 2, 0, 2), ("put", 0, (-7, 9)))), 5, 0), True)
        self.assertEqual(board.told(), (1, ["trial", "good"], [4, 2], 0, 1))
        self.assertEqual((board.text(0), board.text(1)), ([-7, 9, 1, 2], [4, 5]))

    def test_of_elder_length_0_into_the_good_bank(self):
        board = both_good()
        self.assertIs(board.update(plain(0, [8]), 8, 1), True)
        self.assertEqual(board.told(), (1, ["trial", "good"], [1, 2], 1, 1))
        self.assertEqual(board.text(0), [8])

    def test_of_the_empty_text(self):
        board = both_good()
        self.assertIs(board.update((3, 0, ()), 0, 1), True)
        self.assertEqual(board.told(), (1, ["trial", "good"], [0, 2], 1, 1))
        board = running()
        self.assertIs(board.update((0, 0, ()), 0, 1), True)
        self.assertEqual(board.told(), (0, ["good", "trial"], [3, 0], 1, 0))

    def test_a_wrong_total(self):
        for total in (8, 10, -9, 0, LARGE):
            board = running()
            self.assertIs(board.update(plain(0, [4, 5]), total, 2), False)
            self.assertEqual(board.told(), (0, ["good", "bad"], [3, 2], 0, 0))
            self.assertEqual(board.text(1), [4, 5])
        board = both_good()
        self.assertIs(board.update((3, 3, (("take", 0, 0, 3),)), 7, 5), False)
        self.assertEqual(board.told(), (1, ["bad", "good"], [3, 2], 1, 1))
        self.assertEqual(board.text(0), [1, 2, 3])

    def test_large_totals_and_tries(self):
        signs = [LARGE] * 300
        board = running((), 300)
        self.assertIs(board.update(plain(0, signs), 300 * LARGE, LARGE), True)
        self.assertEqual(board.told(), (0, ["good", "trial"], [0, 300], LARGE, 0))
        board = running((), 300)
        self.assertIs(board.update(plain(0, [-LARGE] * 300), -300 * LARGE, 0), True)

    def test_behind_a_wrong_total_only_elder_length_0_fits(self):
        board = running()
        board.update(plain(0, [4, 5]), 8, 2)
        self.assert_refused_unchanged(Unfit, board, board.update, (2, 2, (("take", 0, 0, 2),)), 9, 2)
        self.assertIs(board.update(plain(0, [4, 5]), 9, 2), True)

    def test_the_bank_s_whole_size(self):
        board = running((1, 2, 3), 3)
        self.assertIs(board.update(plain(0, [4, 5, 6]), 15, 1), True)
        board.start()
        board.fine()
        self.assertIs(board.update((3, 3, (("take", 0, 1, 2), ("put", 2, (7,)))), 12, 1), True)
        self.assertEqual(board.text(0), [2, 3, 7])

    def test_down(self):
        paper = (9, 9, ())
        for board in (Board([1, 2, 3], 6), both_good()):
            if board.told()[4] is not None:
                board.go_back()
            # Ahead of each other refusal.
            self.assert_refused_unchanged(Down, board, board.update, paper, 0, 0)
            self.assert_refused_unchanged(Down, board, board.update, plain(0, [1]), 1, 1)
        falls = Falls({})
        board = on_trial(fall=falls)
        falls.answers[len(falls.called)] = ()
        self.assert_refused(Fallen, board.start)
        self.assert_refused_unchanged(Down, board, board.update, paper, 0, 0)

    def test_on_trial(self):
        board = on_trial()
        self.assert_refused_unchanged(OnTrial, board, board.update, (9, 9, ()), 0, 0)
        self.assert_refused_unchanged(OnTrial, board, board.update, plain(0, [1]), 1, 1)
        board.start()
        self.assertEqual(board.told()[4], 1)
        self.assert_refused_unchanged(OnTrial, board, board.update, plain(0, [1]), 1, 1)

    def test_faulty(self):
        board = both_good()
        for paper in ((301, 0, ()), (3, 301, ()), (3, 1, (["put", 0, (1,)],)), (9, 9, (("put", 0, (1,)), ("put", 0, (1,)))),
                      (3, 9, (("put", 0, (1,)),)), (3, 2, (("take", 0, 1, 1), ("take", 1, 0, 1)))):
            refusal = self.assert_refused_unchanged(Faulty, board, board.update, paper, 0, 0)
            self.assertEqual(refusal.fault, judge(paper))
            self.assertIsNotNone(refusal.fault)

    def test_lengths_beyond_a_bank(self):
        board = running()
        self.assert_refused_unchanged(Unfit, board, board.update, (7, 0, ()), 0, 0)
        self.assert_refused_unchanged(Unfit, board, board.update, plain(0, [1] * 7), 7, 0)
        self.assertIs(board.update(plain(0, [1] * 6), 6, 0), True)
        board = self.fallen_in_an_update()
        self.assert_refused_unchanged(Unfit, board, board.update, (7, 0, ()), 0, 0)
        self.assert_refused_unchanged(Unfit, board, board.update, plain(0, [1] * 7), 7, 0)

    def test_elder_lengths_that_don_t_fit(self):
        board = running()
        for old in (1, 2, 3, 6):
            self.assert_refused_unchanged(Unfit, board, board.update, (old, 0, ()), 0, 0)
        board = both_good()
        for old in (1, 2, 4, 6):
            self.assert_refused_unchanged(Unfit, board, board.update, (old, 0, ()), 0, 0)
        self.assertIs(board.update((3, 0, ()), 0, 0), True)

    def test_a_refusal_asks_for_no_write(self):
        falls = Falls({})
        board = running(fall=falls)
        for paper in ((301, 0, ()), (7, 0, ()), (2, 0, ())):
            outcome(board.update, paper, 0, 0)
        outcome(board.fine)
        outcome(board.go_back)
        self.assertEqual(falls.called, [])

    def fallen_in_an_update(self):
        """Bank 1 is open, its cells [4, 0, 0, 0, 0, 0], one piece to be done again."""
        board = running(fall=Falls({4: ()}))
        self.assert_refused(Fallen, board.update, plain(0, [4, 5]), 9, 2)
        board.start()
        return board

    def test_gone_on_with_by_the_same_paper(self):
        board = self.fallen_in_an_update()
        self.assertEqual(board.told(), (0, ["good", "open"], [3, 0], 0, 0))
        self.assertIs(board.update(plain(0, [4, 5]), 9, 2), True)
        self.assertEqual(board.told(), (0, ["good", "trial"], [3, 2], 2, 0))
        self.assertEqual(board.text(1), [4, 5])

    def test_gone_on_with_by_another_paper(self):
        board = self.fallen_in_an_update()
        # Whatever its elder length is: cell 0 holds 4 of the paper ahead.
        self.assertIs(board.update((2, 3, (("take", 2, 0, 1), ("put", 0, (8, 9)))), 21, 1), True)
        self.assertEqual(board.text(1), [8, 9, 4])
        board = self.fallen_in_an_update()
        self.assertIs(board.update((6, 6, (("take", 0, 0, 6),)), 4, 1), True)
        self.assertEqual(board.text(1), [4, 0, 0, 0, 0, 0])

    def test_another_paper_goes_on_from_what_is_noted(self):
        # Two pieces are done and noted, the third one is not.
        board = running(fall=Falls({3 + 4: ()}))
        self.assert_refused(Fallen, board.update, (0, 3, (("put", 0, (4,)), ("put", 1, (5,)), ("put", 2, (6,)))), 15, 1)
        board.start()
        # Its first two pieces count as done, so that the text is another one than it means.
        other = (0, 3, (("put", 0, (7,)), ("put", 1, (8,)), ("put", 2, (9,))))
        self.assertIs(board.update(other, 24, 1), False)
        self.assertEqual(board.text(1), [4, 5, 9])
        self.assertEqual(board.told(), (0, ["good", "bad"], [3, 3], 0, 0))
        # Bad now: the notebook begins anew.
        self.assertIs(board.update(other, 24, 1), True)
        self.assertEqual(board.text(1), [7, 8, 9])

    def test_fewer_pieces_than_noted(self):
        falls = Falls({3 + 4: ()})
        board = running(fall=falls)
        self.assert_refused(Fallen, board.update, (0, 3, (("put", 0, (4,)), ("put", 1, (5,)), ("put", 2, (6,)))), 15, 1)
        board.start()
        asked = len(falls.called)
        self.assertIs(board.update(plain(0, [9]), 4, 3), True)
        self.assertEqual((board.text(1), len(falls.called)), ([4], asked + 3))

    def test_the_order_of_the_writes(self):
        watch = Watch()
        watch.board = running(fall=watch)
        watch.board.update((0, 3, (("put", 1, (5, 6)), ("put", 0, (4,)))), 15, 2)
        bad = (0, ["good", "bad"], [3, 0], 0, 0, [1, 2, 3], [])
        opened = (0, ["good", "open"], [3, 0], 0, 0, [1, 2, 3], [])
        longer = (0, ["good", "open"], [3, 3], 0, 0, [1, 2, 3], [4, 5, 6])
        counted = (0, ["good", "open"], [3, 3], 2, 0, [1, 2, 3], [4, 5, 6])
        self.assertEqual(watch.seen, [bad] * 3 + [opened] * 6 + [longer, counted])

    def test_the_order_of_the_writes_with_a_wrong_total(self):
        watch = Watch()
        watch.board = running(fall=watch)
        watch.board.update(plain(0, [4]), 5, 2)
        bad = (0, ["good", "bad"], [3, 0], 0, 0, [1, 2, 3], [])
        opened = (0, ["good", "open"], [3, 0], 0, 0, [1, 2, 3], [])
        longer = (0, ["good", "open"], [3, 1], 0, 0, [1, 2, 3], [4])
        self.assertEqual(watch.seen, [bad] * 3 + [opened] * 3 + [longer])


class FallsInUpdates(BoardCase):
    # Two notes, the mark; two cells and a note; a cell and a note; the length, the counter, the mark.
    paper = (0, 3, (("put", 1, (5, 6)), ("put", 0, (4,))))
    writes = 11

    def falls_at(self, counts, total=15):
        """Goes on behind each fall until none comes; gives the board and what the last update told."""
        falls = Falls(dict(counts))
        board = running(fall=falls)
        for turn in range(len(counts) + 1):
            asked = len(falls.called)
            try:
                return board, board.update(self.paper, total, 2)
            except Fallen as fallen:
                self.assertEqual(fallen.count, len(falls.called) - 1)
                self.assertGreaterEqual(fallen.count, asked)
                self.assertIsNone(board.told()[4])
                self.assertEqual(board.text(0), [1, 2, 3])
                self.assert_refused_unchanged(Down, board, board.update, self.paper, total, 2)
                if board.told()[1][1] == "trial":
                    return board, True
                if board.told()[1][1] == "bad" and board.told()[2][1] == 3:
                    return board, False
                self.assertEqual(board.start(), 0)
        raise AssertionError("it doesn't end")

    def test_one_fall_at_each_write(self):
        for count in range(self.writes):
            for answer in ((), (77,), (0,)):
                board, told = self.falls_at({count: answer})
                self.assertIs(told, True)
                self.assertEqual(board.told()[:4], (0, ["good", "trial"], [3, 3], 2))
                self.assertEqual((board.text(0), board.text(1)), ([1, 2, 3], [4, 5, 6]))

    def test_two_falls(self):
        for one in range(self.writes):
            for other in range(one + 1, 2 * self.writes):
                for answers in (((), (77,)), ((77,), ()), ((77,), (78,)), ((), ())):
                    board, told = self.falls_at({one: answers[0], other: answers[1]})
                    self.assertIs(told, True)
                    self.assertEqual(board.text(1), [4, 5, 6])

    def test_with_a_wrong_total(self):
        for count in range(self.writes - 1):
            for answer in ((), (77,)):
                board, told = self.falls_at({count: answer}, 16)
                self.assertIs(told, False)
                self.assertEqual(board.told()[:4], (0, ["good", "bad"], [3, 3], 0))

    def test_what_a_fall_leaves(self):
        bad, opened = (["good", "bad"], [3, 0], 0), (["good", "open"], [3, 0], 0)
        longer, counted = (["good", "open"], [3, 3], 0), (["good", "open"], [3, 3], 2)
        ahead = [bad] * 3 + [opened] * 6 + [longer, counted, (["good", "trial"], [3, 3], 2)]
        for count in range(self.writes):
            for answer in ((), (77,)):
                falls = Falls({count: answer})
                board = running(fall=falls)
                fallen = self.assert_refused(Fallen, board.update, self.paper, 15, 2)
                self.assertEqual((fallen.count, falls.called), (count, list(range(count + 1))))
                self.assertEqual(board.told()[1:4], ahead[count + 1] if answer and count in (2, 8, 9, 10) else ahead[count])
                self.assertEqual((board.told()[0], board.told()[4]), (0, None))

    def test_a_cell_torn_for_good_by_another_paper(self):
        # Fallen amid cell 1, the other paper leaves it as it is.
        board = running(fall=Falls({3: (77,)}))
        self.assert_refused(Fallen, board.update, self.paper, 15, 2)
        board.start()
        self.assertIs(board.update((6, 6, (("take", 0, 0, 6),)), 77, 1), True)
        self.assertEqual(board.text(1), [0, 77, 0, 0, 0, 0])

    def test_a_note_lost_and_one_not_written(self):
        # Fallen at the note behind the first piece: it is done again.
        for answer in ((), (1,), (9,)):
            falls = Falls({5: answer})
            board = running(fall=falls)
            self.assert_refused(Fallen, board.update, self.paper, 15, 2)
            board.start()
            board.update(self.paper, 15, 2)
            self.assertEqual(len(falls.called), 6 + 5 + 3)
        # Fallen at the note behind the second piece: the first one is not.
        for answer in ((), (1,), (9,)):
            falls = Falls({7: answer})
            board = running(fall=falls)
            self.assert_refused(Fallen, board.update, self.paper, 15, 2)
            board.start()
            board.update(self.paper, 15, 2)
            self.assertEqual(len(falls.called), 8 + 2 + 3)

    def test_a_fall_as_the_notebook_begins_anew(self):
        # Bank 0 is updated by two pieces, so that both notes are above 0; then it fails, and is to begin anew.
        for count, answer in ((0, ()), (0, (5,)), (1, ()), (1, (5,)), (2, ())):
            falls = Falls({})
            board = running(fall=falls)
            board.update(self.paper, 16, 1)
            self.assertEqual(board.told()[1], ["good", "bad"])
            falls.answers[len(falls.called) + count] = answer
            self.assert_refused(Fallen, board.update, plain(0, [8, 9]), 17, 1)
            self.assertEqual(board.told()[1], ["good", "bad"])
            board.start()
            self.assertIs(board.update(plain(0, [8, 9]), 17, 1), True)
            self.assertEqual(board.text(1), [8, 9])

    def test_takes_in_a_good_bank(self):
        paper = (3, 4, (("take", 1, 0, 3), ("put", 0, (9,))))
        self.assertEqual(meant(paper, [1, 2, 3]), [9, 1, 2, 3])
        for count in range(16):
            for answer in ((), (77,)):
                falls = Falls({})
                board = both_good(falls)
                falls.answers[len(falls.called) + count] = answer
                told = outcome(board.update, paper, 15, 2)
                if told is True:
                    self.assertGreaterEqual(count, 14)
                    continue
                self.assertEqual(board.start(), 0 if board.told()[1][0] == "trial" else 1)
                if board.told()[1][0] != "trial":
                    self.assertIs(board.update(paper, 15, 2), True)
                self.assertEqual((board.text(0), board.text(1)), ([9, 1, 2, 3], [4, 5]))


class FineAndBack(BoardCase):
    def test_fine(self):
        board = on_trial()
        board.start()
        self.assertIsNone(board.fine())
        self.assertEqual(board.told(), (1, ["good", "good"], [3, 2], 1, 1))
        self.assertEqual((board.text(0), board.text(1)), ([1, 2, 3], [4, 5]))

    def test_fine_in_bank_0(self):
        board = both_good()
        board.update(plain(0, [8]), 8, 1)
        self.assertEqual(board.start(), 0)
        board.fine()
        self.assertEqual(board.told(), (0, ["good", "good"], [1, 2], 0, 0))

    def test_fine_refused(self):
        board = Board([1], 2)
        self.assert_refused_unchanged(Down, board, board.fine)
        board.start()
        self.assert_refused_unchanged(NoTrial, board, board.fine)
        # On trial, but it doesn't run yet.
        board = on_trial()
        self.assert_refused_unchanged(NoTrial, board, board.fine)
        board = both_good()
        self.assert_refused_unchanged(NoTrial, board, board.fine)
        board.go_back()
        self.assert_refused_unchanged(Down, board, board.fine)

    def test_fine_is_two_writes(self):
        for count, answer, told in ((0, (), (0, ["good", "trial"], [3, 2], 1, None)),
                                    (0, (7,), (0, ["good", "good"], [3, 2], 1, None)),
                                    (1, (), (0, ["good", "good"], [3, 2], 1, None)),
                                    (1, (7,), (1, ["good", "good"], [3, 2], 1, None))):
            falls = Falls({})
            board = on_trial(fall=falls)
            board.start()
            falls.answers[len(falls.called) + count] = answer
            fallen = self.assert_refused(Fallen, board.fine)
            self.assertEqual(fallen.count, len(falls.called) - 1)
            self.assertEqual(board.told(), told)
            self.assert_refused_unchanged(Down, board, board.fine)
        falls = Falls({})
        board = on_trial(fall=falls)
        board.start()
        asked = len(falls.called)
        board.fine()
        self.assertEqual(len(falls.called), asked + 2)

    def test_fallen_ahead_of_the_marker_one_can_go_there(self):
        falls = Falls({})
        board = on_trial(fall=falls)
        board.start()
        falls.answers[len(falls.called) + 1] = ()
        self.assert_refused(Fallen, board.fine)
        self.assertEqual(board.start(), 0)
        board.go_back()
        self.assertEqual(board.start(), 1)
        self.assertEqual(board.told(), (1, ["good", "good"], [3, 2], 1, 1))

    def test_back(self):
        falls = Falls({})
        board = both_good(falls)
        asked = len(falls.called)
        self.assertIsNone(board.go_back())
        self.assertEqual(board.told(), (0, ["good", "good"], [3, 2], 1, None))
        self.assertEqual(len(falls.called), asked + 1)
        self.assertEqual(board.start(), 0)
        board.go_back()
        self.assertEqual(board.told(), (1, ["good", "good"], [3, 2], 1, None))

    def test_it_runs_until_the_marker_is_written(self):
        watch = Watch()
        watch.board = Board([1, 2, 3], 6, watch)
        watch.board.start()
        watch.board.update(plain(0, [4, 5]), 9, 1)
        watch.board.start()
        watch.board.fine()
        watch.seen = []
        watch.board.go_back()
        self.assertEqual([seen[:5] for seen in watch.seen], [(1, ["good", "good"], [3, 2], 0, 1)])

    def test_back_refused(self):
        board = Board([1], 2)
        self.assert_refused_unchanged(Down, board, board.go_back)
        board.start()
        self.assert_refused_unchanged(NoWayBack, board, board.go_back)
        board = on_trial()
        self.assert_refused_unchanged(NoWayBack, board, board.go_back)
        board.start()
        self.assert_refused_unchanged(NoWayBack, board, board.go_back)
        board = running(fall=Falls({4: ()}))
        outcome(board.update, plain(0, [4, 5]), 9, 2)
        board.start()
        self.assertEqual(board.told()[1], ["good", "open"])
        self.assert_refused_unchanged(NoWayBack, board, board.go_back)
        board = both_good()
        board.go_back()
        self.assert_refused_unchanged(Down, board, board.go_back)

    def test_a_fall_at_the_marker(self):
        for answer, marker in (((), 1), ((7,), 0)):
            falls = Falls({})
            board = both_good(falls)
            falls.answers[len(falls.called)] = answer
            self.assert_refused(Fallen, board.go_back)
            self.assertEqual(board.told(), (marker, ["good", "good"], [3, 2], 1, None))


class AtEachMoment(BoardCase):
    """A board by chance beside the document's words; and what [33] promises, looked at ahead of each write."""

    def paper_for(self, chance, board):
        other = 1 - board.told()[0]
        elder = board.text(other)
        newer = [chance.randrange(5) for at in range(chance.randrange(6))]
        kind = chance.randrange(8)
        if kind == 0:
            return (chance.randrange(8), chance.randrange(8), ())
        if kind == 1:
            return (2, 2, (("take", 0, 1, 1), ("take", 1, 0, 1)))
        if kind < 5:
            return made(elder, elder[2:] + newer[:2] + elder[:2], 1)[0]
        return plain(0, newer)

    def deeds(self, chance, board):
        paper = self.paper_for(chance, board)
        total = chance.randrange(9)
        if judge(paper) is None and chance.randrange(5) and paper[0] in (0, len(board.text(1 - board.told()[0]))):
            elder = board.text(1 - board.told()[0])[:paper[0]]
            total = sum(meant(paper, elder))
        return chance.choice((("start",), ("start",), ("update", paper, total, chance.randrange(3)),
                              ("update", paper, total, chance.randrange(3)), ("fine",), ("go_back",)))

    def test_beside_the_words(self):
        kinds = set()
        for seed in range(150):
            chance = random.Random(seed)
            answers = {}
            for count in range(4000):
                if chance.randrange(12) == 0:
                    answers[count] = chance.choice(((), (chance.randrange(9),)))
            text = [chance.randrange(5) for at in range(chance.randrange(6))]
            board = Board(text, 6, answers.get)
            words = BoardByWords(text, 6, answers.get)
            for turn in range(60):
                name, *given = self.deeds(chance, board)
                kept = copy.deepcopy(given)
                expected = words.do(getattr(words, name)(*given))
                told = outcome(getattr(board, name), *given)
                self.assertEqual(told, expected, (seed, turn, name, given))
                self.assertEqual(board.told(), words.told(), (seed, turn, name, given))
                self.assertEqual((board.text(0), board.text(1)), (words.text(0), words.text(1)))
                self.assertEqual(given, kept)
                kinds.add((name, told[0] if isinstance(told, tuple) else told))
        for kind in (("start", 0), ("start", 1), ("start", "Fallen"), ("update", True), ("update", False),
                     ("update", "Fallen"), ("update", "Down"), ("update", "OnTrial"), ("update", "Faulty"),
                     ("update", "Unfit"), ("fine", None), ("fine", "Fallen"), ("fine", "Down"), ("fine", "NoTrial"),
                     ("go_back", None), ("go_back", "Fallen"), ("go_back", "Down"), ("go_back", "NoWayBack")):
            self.assertIn(kind, kinds)

    def test_the_marked_bank_and_the_tries(self):
        for seed in range(150):
            chance = random.Random(seed)
            text = [chance.randrange(5) for at in range(chance.randrange(6))]
            fit = [[text], []]
            runs_left = None

            def look(board):
                marker, marks, lengths, counter, runs = board.told()
                self.assertEqual(marks[marker], "good")
                self.assertIn(board.text(marker), fit[marker])
                self.assertEqual(lengths, [len(board.text(0)), len(board.text(1))])

            def fall(count):
                look(board)
                return chance.choice(((), (chance.randrange(9),))) if chance.randrange(15) == 0 else None

            board = Board(text, 6, fall)
            for turn in range(60):
                name, *given = self.deeds(chance, board)
                other = 1 - board.told()[0]
                was = board.told()
                if name == "fine" and was[4] == other:
                    fit[other].append(board.text(other))
                told = outcome(getattr(board, name), *given)
                look(board)
                if isinstance(told, tuple) and told[0] == "Fallen":
                    self.assertIsNone(board.told()[4])
                if name == "update" and board.told()[1][other] == "trial" and was[1][other] != "trial":
                    runs_left = given[2]
                if name == "start" and told == other:
                    runs_left = runs_left - 1
                    self.assertGreaterEqual(runs_left, 0)


if __name__ == "__main__":
    unittest.main()
