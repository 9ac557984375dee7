"""The desk: rows of text that lay out a room and a paper, judge the paper and do it, with falls where one likes."""

from oneroom.doer import go_on
from oneroom.errors import Fallen, Faulty, NoLine, Unfit
from oneroom.judge import MOST, judge
from oneroom.maker import made
from oneroom.papers import cost, plain
from oneroom.rows import row_of
from oneroom.stores import Store
from oneroom.texts import paper_text, read_number

# Of each word: how many numbers stand behind it at least, how many at most (None: as many as one likes), and how
# many of them are no signs, so that they are not below 0.
FORMS = {
    "room": (1, None, 1),
    "rows": (2, 2, 2),
    "take": (3, 3, 3),
    "put": (2, None, 1),
    "make": (1, None, 1),
    "judge": (0, 0, 0),
    "begin": (0, 0, 0),
    "go": (0, 2, 1),
    "cells": (0, 0, 0),
    "paper": (0, 0, 0),
}

WANT_ROOM = ("make", "begin", "cells")

WANT_PAPER = ("take", "put", "judge", "begin", "paper")


class Desk:
    def __init__(self):
        self.store = None
        self.elder = []
        self.paper = None
        self.begun = False

    def say(self, row):
        words = words_of(row)
        word = words[0]
        numbers = [read_number(part) for part in words[1:]]
        if not is_listed(word, numbers):
            raise NoLine("no row that the desk knows")
        if not self.has_what_is_wanted(word):
            raise NoLine("no room, no paper or none begun")
        return self.answer_to(word, numbers)

    def has_what_is_wanted(self, word):
        if word in WANT_ROOM and self.store is None:
            return False
        if word in WANT_PAPER and self.paper is None:
            return False
        return word != "go" or self.begun

    def answer_to(self, word, numbers):
        if word == "room":
            return self.lay_room(numbers[0], numbers[1:])
        if word == "rows":
            return self.lay_paper((numbers[0], numbers[1], ()))
        if word == "take":
            return self.add_row(("take", numbers[0], numbers[1], numbers[2]))
        if word == "put":
            return self.add_row(("put", numbers[0], tuple(numbers[1:])))
        if word == "make":
            return self.make_paper(numbers[0], numbers[1:])
        if word == "judge":
            return self.shown_fault()
        if word == "begin":
            return self.begin_paper()
        if word == "go":
            return self.go_on_with_paper(numbers)
        if word == "cells":
            return joined(self.store.told()[0])
        return paper_text(self.paper).replace("\n", "; ")

    def lay_room(self, size, text):
        self.store = Store(text + [0] * (size - len(text)))
        self.elder = text
        self.begun = False
        return "ok"

    def lay_paper(self, paper):
        self.paper = paper
        self.begun = False
        return "ok"

    def add_row(self, told):
        row = row_of(told).told()
        return self.lay_paper((self.paper[0], self.paper[1], self.paper[2] + (row,)))

    def make_paper(self, least, newer):
        pair = made(self.elder, newer, least)
        self.lay_paper(pair[0])
        price = cost(pair[0])
        plain_price = cost(plain(len(self.elder), newer))
        turned = len(pair[1])
        return f"cost {price} plain {plain_price} turned {turned}"

    def shown_fault(self):
        fault = judge(self.paper)
        if fault is None:
            return "none"
        return joined(fault)

    def begin_paper(self):
        fault = judge(self.paper)
        if fault is not None:
            raise Faulty(fault)
        if self.paper[0] != len(self.elder):
            raise Unfit("the text has another length")
        # The fall of an earlier go is over.
        self.store.fall_by(None)
        self.store.begin()
        self.begun = True
        return "ok"

    def go_on_with_paper(self, numbers):
        asked = self.store.told()[2]
        self.store.fall_by(fall_behind(asked, numbers))
        try:
            go_on(self.store, self.paper)
        except Fallen:
            return "fallen"
        told = self.store.told()
        self.elder = told[0][:self.paper[1]]
        self.begun = False
        writes = told[2] - asked
        return f"done {writes}"


def words_of(row):
    if not isinstance(row, str):
        raise NoLine("no text")
    return row.split(" ")


def is_listed(word, numbers):
    if word not in FORMS or None in numbers:
        return False
    form = FORMS[word]
    if len(numbers) < form[0] or (form[1] is not None and len(numbers) > form[1]):
        return False
    if any([number < 0 for number in numbers[:form[2]]]):
        return False
    if word == "room":
        return numbers[0] <= MOST and len(numbers) - 1 <= numbers[0]
    return word != "make" or numbers[0] >= 1


# The numbers of a go: how many writes it makes at most, and the sign that the write behind them leaves.
def fall_behind(asked, numbers):
    if len(numbers) == 0:
        return None
    last = asked + numbers[0]
    answer = tuple(numbers[1:])
    return lambda count: answer if count == last else None


def joined(parts):
    return " ".join([str(part) for part in parts])
