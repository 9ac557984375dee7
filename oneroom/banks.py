"""Banks: a board with two banks, of which the marked one holds a whole good text at each moment, whatever falls."""

from oneroom.doer import go_on
from oneroom.errors import Down, Fallen, Faulty, NoTrial, NoWayBack, OnTrial, Unfit
from oneroom.judge import judge
from oneroom.stores import Pen, Store


class Board:
    def __init__(self, text, size, fall=None):
        if len(text) > size:
            raise Unfit("the text is longer than a bank")
        self.pen = Pen(fall)
        self.size = size
        self.banks = [bank_of(list(text) + [0] * (size - len(text)), self.pen), bank_of([0] * size, self.pen)]
        self.lengths = [len(text), 0]
        self.marks = ["good", "bad"]
        self.settings = {"marker": 0, "counter": 0}
        self.running = None

    def start(self):
        self.running = None
        self.running = self.bank_to_run()
        return self.running

    def update(self, paper, total, tries):
        self.refuse_down()
        self.refuse_paper(paper)
        return self.run_or_fall(lambda: self.put_on_trial(paper, total, tries))

    def fine(self):
        self.refuse_down()
        other = self.other_bank()
        if self.running != other or self.marks[other] != "trial":
            raise NoTrial("what runs is not on trial")
        self.run_or_fall(lambda: self.make_good(other))

    def go_back(self):
        self.refuse_down()
        other = self.other_bank()
        if self.marks[other] != "good":
            raise NoWayBack("the other bank is not good")
        self.run_or_fall(lambda: self.change(self.settings, "marker", other))
        self.running = None

    def text(self, bank):
        return self.banks[bank].told()[0][:self.lengths[bank]]

    def told(self):
        marker = self.settings["marker"]
        counter = self.settings["counter"]
        return (marker, list(self.marks), list(self.lengths), counter, self.running)

    def other_bank(self):
        return 1 - self.settings["marker"]

    def bank_to_run(self):
        marked = self.settings["marker"]
        other = self.other_bank()
        if self.marks[other] != "trial":
            return marked
        counter = self.settings["counter"]
        if counter == 0:
            self.change(self.marks, other, "bad")
            return marked
        # Ahead of the run, so that a text that makes the machine fall uses its tries up.
        self.change(self.settings, "counter", counter - 1)
        return other

    def refuse_down(self):
        if self.running is None:
            raise Down("nothing runs")

    def refuse_paper(self, paper):
        other = self.other_bank()
        if self.marks[other] == "trial":
            raise OnTrial("the other bank is on trial")
        fault = judge(paper)
        if fault is not None:
            raise Faulty(fault)
        if max(paper[0], paper[1]) > self.size:
            raise Unfit("a bank has fewer cells")
        if not self.holds_elder(other, paper[0]):
            raise Unfit("the other bank holds no good text of the elder length")

    # An open bank holds what a fall left of an update, which no length tells.
    def holds_elder(self, bank, old):
        if self.marks[bank] == "open" or old == 0:
            return True
        return self.marks[bank] == "good" and self.lengths[bank] == old

    def put_on_trial(self, paper, total, tries):
        other = self.other_bank()
        bank = self.banks[other]
        if self.marks[other] != "open":
            # Ahead of the mark: an open bank's notebook is trusted.
            bank.begin()
            self.change(self.marks, other, "open")
        go_on(bank, paper)
        self.change(self.lengths, other, paper[1])
        if sum(self.text(other)) != total:
            self.change(self.marks, other, "bad")
            return False
        self.change(self.settings, "counter", tries)
        self.change(self.marks, other, "trial")
        return True

    # Good ahead of marked, since the marked bank is good at each moment.
    def make_good(self, bank):
        self.change(self.marks, bank, "good")
        self.change(self.settings, "marker", bank)

    # These are never torn: where the machine falls amid such a write, it was made.
    def change(self, kept, at, value):
        self.pen.write_into(kept, at, value, lambda sign: value)

    def run_or_fall(self, deed):
        try:
            return deed()
        except Fallen as fallen:
            self.running = None
            raise Fallen(fallen.count) from None


# Written with the board's own pen, so that the writes of both banks and of the board are counted together.
def bank_of(cells, pen):
    bank = Store(cells)
    bank.pen = pen
    return bank
