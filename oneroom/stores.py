"""Stores: what stays when the machine falls, a room of cells, a notebook of two notes and a count of writes."""

from oneroom.errors import Fallen, OutOfRoom


# What writes, counts the writes and falls: apart from the store, so that several stores can be written with one pen.
class Pen:
    def __init__(self, fall):
        self.asked = 0
        self.fall = fall

    # A write that falls was asked for too, so the count grows ahead of the answer. What is left in the place
    # where the machine falls amid the write hangs on what is written there: torn tells it of the answer's sign.
    def write_into(self, kept, at, value, torn):
        count = self.asked
        self.asked = count + 1
        answer = self.answer_of_fall(count)
        if answer is None:
            kept[at] = value
            return
        if len(answer) == 1:
            kept[at] = torn(answer[0])
        raise Fallen(count)

    def answer_of_fall(self, count):
        fall = self.fall
        if fall is None:
            return None
        return fall(count)


class Store:
    def __init__(self, cells, fall=None):
        self.cells = list(cells)
        self.notes = [0, 0]
        self.pen = Pen(fall)

    def read(self, at):
        self.refuse_lacking(at)
        return self.cells[at]

    def write(self, at, sign):
        # Ahead of the asking, since a place that the room lacks is no write that could fall.
        self.refuse_lacking(at)
        self.pen.write_into(self.cells, at, sign, lambda other: other)

    # Numbers that follow one another go to different notes, so a fall amid a note leaves the one ahead of it.
    def mark(self, number):
        self.note_down(number % 2, number)

    def noted(self):
        return max([note for note in self.notes if note is not None], default=0)

    def begin(self):
        self.note_down(0, 0)
        self.note_down(1, 0)

    def told(self):
        return (list(self.cells), list(self.notes), self.pen.asked)

    # Another fall from now on, or none.
    def fall_by(self, fall):
        pen = self.pen
        pen.fall = fall

    # Python would take a place below 0 as one from the end on.
    def refuse_lacking(self, at):
        if at < 0 or at >= len(self.cells):
            raise OutOfRoom(at)

    def note_down(self, at, number):
        self.pen.write_into(self.notes, at, number, lambda other: None)
