"""The promise over the whole program ([3], with [2]): maker, judge, doer, texts and banks together."""

import itertools
import random
import unittest

from oneroom.banks import Board
from oneroom.doer import go_on, pieces_of
from oneroom.errors import Fallen
from oneroom.judge import judge
from oneroom.maker import made
from oneroom.papers import cost, meant, plain
from oneroom.stores import Store
from oneroom.texts import paper_text, read_paper


class Spied(Store):
    """A store that holds each read against the elder text."""

    def __init__(self, room, elder, fall):
        Store.__init__(self, room, fall)
        self.elder = elder
        self.wrong = []

    def read(self, at):
        sign = Store.read(self, at)
        if at >= len(self.elder) or sign != self.elder[at]:
            self.wrong.append(at)
        return sign


def texts(signs, most):
    for length in range(most + 1):
        for text in itertools.product(signs, repeat=length):
            yield list(text)


def small_papers():
    """Papers of up to three rows, each of whose rows fits: with and without fault."""
    for old, new in itertools.product(range(1, 4), repeat=2):
        rows = [("take", to, start, count) for to in range(new) for start in range(old)
                for count in range(1, min(old - start, new - to) + 1)]
        rows = rows + [("put", to, (7,) * count) for to in range(new) for count in range(1, new - to + 1)]
        for many in range(1, 4):
            for chosen in itertools.product(rows, repeat=many):
                yield (old, new, chosen)


def done_in_one_room(paper, elder, answers, behind=1):
    """The first cells, the cells behind, and the places that were read wrongly, gone on with behind each fall."""
    size = max(paper[0], paper[1]) + behind
    room = list(elder) + [-3] * (size - len(elder))
    store = Spied(room, elder, answers.get)
    for turn in range(len(answers) + 1):
        try:
            go_on(store, paper)
            break
        except Fallen:
            pass
    cells = store.told()[0]
    return cells[:paper[1]], cells[paper[1]:] == room[paper[1]:], store.wrong


def writes_of(paper):
    return sum(len(cells) + 1 for row, cells in pieces_of(paper))


class TheMadePaper(unittest.TestCase):
    def test_every_fall_of_small_texts(self):
        for elder in texts((1, 2), 4):
            for newer in texts((1, 2), 4):
                paper = made(elder, newer, 1)[0]
                self.assertIsNone(judge(paper))
                for count in range(writes_of(paper) + 1):
                    for answer in ((), (2,)):
                        told = done_in_one_room(paper, elder, {count: answer})
                        self.assertEqual(told, (newer, True, []), (elder, newer, count, answer))

    def test_two_falls_of_small_texts(self):
        chance = random.Random(2)
        pairs = list(itertools.product(texts((1, 2, 3), 4), repeat=2))
        for elder, newer in chance.sample(pairs, 60):
            paper = made(elder, newer, chance.randrange(1, 4))[0]
            for one, other in itertools.combinations(range(writes_of(paper) + 4), 2):
                answers = {one: chance.choice(((), (9,), (1,))), other: chance.choice(((), (9,), (1,)))}
                self.assertEqual(done_in_one_room(paper, elder, answers), (newer, True, []))

    def test_longer_texts_with_many_falls(self):
        chance = random.Random(7)
        for turn in range(40):
            elder = [chance.randrange(4) for at in range(chance.randrange(60, 120))]
            cut, other = sorted(chance.sample(range(len(elder)), 2))
            newer = elder[cut:other] + [9] * chance.randrange(4) + elder[:cut] + elder[other:] + elder[:cut]
            newer = newer[:300]
            paper = made(elder, newer)[0]
            self.assertIsNone(judge(paper))
            self.assertLessEqual(cost(paper), cost(plain(len(elder), newer)))
            answers = {count: chance.choice(((), (count,), (0,))) for count in range(1500) if chance.randrange(60) == 0}
            self.assertEqual(done_in_one_room(paper, elder, answers), (newer, True, []))

    def test_the_largest_texts(self):
        elder = list(range(300))
        newer = elder[150:] + elder[:150]
        paper, turned = made(elder, newer)
        self.assertEqual(len(turned), 1)
        self.assertEqual(done_in_one_room(paper, elder, {200: (5,), 470: ()}, 0), (newer, True, []))
        newer = [7] + elder[:299]
        paper = made(elder, newer)[0]
        self.assertEqual(done_in_one_room(paper, elder, {200: (5,), 470: ()}, 0), (newer, True, []))

    def test_shown_and_read_again_it_does_the_same(self):
        elder, newer = [1, 2, 3, 4, 5, 6, 7, 8], [5, 6, 7, 8, 0, 1, 2, 3, 4]
        paper = made(elder, newer, 2)[0]
        self.assertEqual(read_paper(paper_text(paper)), paper)
        self.assertEqual(done_in_one_room(read_paper(paper_text(paper)), elder, {3: (4,)}), (newer, True, []))


class WhoeverWroteIt(unittest.TestCase):
    def test_without_fault_it_is_right_and_a_late_row_is_wrong(self):
        faultless = late = 0
        for paper in small_papers():
            fault = judge(paper)
            elder = [100 + at for at in range(paper[0])]
            if fault is None:
                faultless = faultless + 1
                newer = meant(paper, elder)
                self.assertEqual(done_in_one_room(paper, elder, {}), (newer, True, []))
                count = faultless % (writes_of(paper) + 1)
                self.assertEqual(done_in_one_room(paper, elder, {count: (101,), count + 2: ()}), (newer, True, []))
            elif fault[0] == "late":
                late = late + 1
                cells, behind, wrong = done_in_one_room(paper, elder, {})
                self.assertNotEqual(cells, meant(paper, elder), paper)
                self.assertIn(fault[2], wrong)
        self.assertGreater(faultless, 300)
        self.assertGreater(late, 50)

    def test_elder_texts_of_like_signs(self):
        paper = (4, 4, (("take", 0, 1, 3), ("put", 3, (2,))))
        for elder in itertools.product((1, 2), repeat=4):
            for count in range(9):
                self.assertEqual(done_in_one_room(paper, list(elder), {count: (1,)}),
                                 (list(elder[1:]) + [2], True, []))


class OnTheBoard(unittest.TestCase):
    def test_made_papers_come_to_run(self):
        chance = random.Random(9)
        for turn in range(60):
            history = [[chance.randrange(3) for at in range(8)], []]
            answers = {count: chance.choice(((), (chance.randrange(3),)))
                       for count in range(3000) if chance.randrange(14) == 0}
            board = Board(history[0], 12, answers.get)
            for change in range(6):
                self.make_run(board, history, chance)

    def make_run(self, board, history, chance):
        other = 1 - board.told()[0]
        elder = history[other]
        newer = (elder[4:] + [chance.randrange(3) for at in range(4)] + elder[:chance.randrange(4)])[:12]
        paper = made(elder, newer, 1)[0]
        while board.told()[0] != other:
            try:
                runs = board.start()
                marks = board.told()[1]
                if runs == other:
                    self.assertEqual(board.text(other), newer)
                    board.fine()
                elif marks[other] == "good" and board.text(other) == newer and newer != elder:
                    # Told fine, but fallen ahead of the marker.
                    board.go_back()
                else:
                    # What is bad, since its tries were used up, is made from nothing.
                    if marks[other] == "bad":
                        paper = plain(0, newer)
                    self.assertTrue(board.update(paper, sum(newer), 2))
            except Fallen:
                self.assertIsNone(board.told()[4])
            self.assertEqual(board.text(1 - other), history[1 - other])
        history[other] = newer
        self.assertEqual(board.text(other), newer)

    def test_a_bad_download_is_never_marked(self):
        board = Board([1, 2, 3], 5)
        board.start()
        self.assertFalse(board.update(plain(0, [4, 4]), 9, 3))
        self.assertEqual(board.start(), 0)
        self.assertEqual((board.told()[0], board.text(0)), (0, [1, 2, 3]))


class NothingHandedInIsChanged(unittest.TestCase):
    def test_lists_and_papers(self):
        elder, newer = [1, 2, 3, 4], [3, 4, 1, 2]
        paper = made(elder, newer, 1)[0]
        kept = repr(paper)
        store = Store(elder)
        go_on(store, paper)
        board = Board(elder, 4)
        board.start()
        board.update(plain(0, newer), 10, 1)
        board.start()
        board.fine()
        board.update(paper, 10, 1)
        self.assertEqual(board.text(0), newer)
        self.assertEqual((elder, newer, repr(paper)), ([1, 2, 3, 4], [3, 4, 1, 2], kept))
        elder[0] = newer[0] = 99
        self.assertEqual((store.told()[0], board.text(0), board.text(1)), ([3, 4, 1, 2], [3, 4, 1, 2], [3, 4, 1, 2]))


if __name__ == "__main__":
    unittest.main()
