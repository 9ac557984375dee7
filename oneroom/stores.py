"""Stores: what stays when the machine falls, a room of cells, a notebook of two notes and a count of writes."""

from oneroom.errors import Fallen, OutOfRoom


class Store:
    def __init__(self, cells, fall=None):
        self.cells = list(cells)
        self.notes = [0, 0]
        self.asked = 0
        self.fall = fall

    def read(self, at):
        self.refuse_lacking(at)
        return self.cells[at]

    def write(self, at, sign):
        # Ahead of the asking, since a place that the room lacks is no write that could fall.
        self.refuse_lacking(at)
        self.write_into(self.cells, at, sign, True)

    # Numbers that follow one another go to different notes, so a fall amid a note leaves the one ahead of it.
    def mark(self, number):
        self.write_into(self.notes, number % 2, number, False)

    def noted(self):
        return max([note for note in self.notes if note is not None], default=0)

    def begin(self):
        self.write_into(self.notes, 0, 0, False)
        self.write_into(self.notes, 1, 0, False)

    def told(self):
        return (list(self.cells), list(self.notes), self.asked)

    # Python would take a place below 0 as one from the end on.
    def refuse_lacking(self, at):
        if at < 0 or at >= len(self.cells):
            raise OutOfRoom(at)

    # A write that falls was asked for too, so the count grows ahead of the answer.
    def write_into(self, kept, at, value, holds_signs):
        count = self.asked
        self.asked = count + 1
        answer = self.answer_of_fall(count)
        if answer is None:
            kept[at] = value
            return
        if len(answer) == 1:
            kept[at] = answer[0] if holds_signs else None
        raise Fallen(count)

    def answer_of_fall(self, count):
        fall = self.fall
        if fall is None:
            return None
        return fall(count)
