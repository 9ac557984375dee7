import random
import unittest

from oneroom.desk import Desk
from oneroom.errors import Faulty, NoLine, NoRow, OutOfRoom, Unfit
from oneroom.judge import judge
from oneroom.maker import made
from oneroom.papers import cost, meant, plain
from oneroom.texts import paper_text, read_paper

LARGE = 10 ** 60 - 1
LONG = "1" + "0" * 60


def shown(paper):
    return paper_text(paper).replace("\n", "; ")


class DeskCase(unittest.TestCase):
    def setUp(self):
        self.desk = Desk()

    def say(self, *rows):
        """Says the rows, and tells the last answer."""
        for row in rows:
            answer = self.desk.say(row)
            self.assertIs(type(answer), str)
        return answer

    def refused(self, kind, row):
        with self.assertRaises(kind, msg=repr(row)) as caught:
            self.desk.say(row)
        return caught.exception

    def go_through(self, *rows):
        """Says the rows until one comes to the end, and go at last."""
        for row in rows + ("go",):
            if self.say(row) != "fallen":
                return

    def laid(self, room="room 6 1 2 3", *rows):
        """A desk with a room and a paper."""
        self.desk = Desk()
        return self.say(room, *(rows or ("rows 3 4", "take 1 0 3", "put 0 9")))


class Rooms(DeskCase):
    def test_ordinary(self):
        self.assertEqual(self.say("room 5 1 -2 3"), "ok")
        self.assertEqual(self.say("cells"), "1 -2 3 0 0")

    def test_edges(self):
        self.assertEqual(self.say("room 0"), "ok")
        self.assertEqual(self.say("cells"), "")
        self.assertEqual(self.say("room 1"), "ok")
        self.assertEqual(self.say("cells"), "0")
        self.assertEqual(self.say("room 300"), "ok")
        self.assertEqual(self.say("cells"), " ".join(["0"] * 300))
        self.assertEqual(self.say("room 300 " + " ".join(["7"] * 300)), "ok")
        self.assertEqual(self.say("cells"), " ".join(["7"] * 300))
        self.assertEqual(self.say("room 2 4 5"), "ok")
        self.assertEqual(self.say("cells"), "4 5")

    def test_refused(self):
        self.say("room 2 4 5")
        for row in ("room 301", "room 301 1", f"room {LARGE}", f"room {LONG}", "room -1", "room", "room ", "room x",
                    "room 0 1", "room 2 1 2 3", "room 1 0 0", "room 3 1 x", "room 3 1  2", "room 3 1 2 ", " room 3",
                    "room 03", "room +3", "room -0", "room 3 01", "room 3 +1", "room 3 -0", "room 3 1.0", "room 3 1,2",
                    f"room 3 {LONG}", f"room 3 -{LONG}", "Room 3", "room\t3", "room 3\n", "\nroom 3", "room 3 1_0",
                    "room 300 " + " ".join(["7"] * 301)):
            self.refused(NoLine, row)
            self.assertEqual(self.say("cells"), "4 5")

    def test_sixty_figures(self):
        self.say(f"room 2 {LARGE} -{LARGE}")
        self.assertEqual(self.say("cells"), f"{LARGE} -{LARGE}")

    def test_a_new_room_leaves_the_paper(self):
        self.say("rows 1 1", "take 0 0 1")
        ahead = self.say("paper")
        self.say("room 3 1")
        self.assertEqual(self.say("paper"), ahead)

    def test_the_notebook_is_a_new_one(self):
        self.laid()
        self.say("begin", "go", "room 6 1 2 3", "begin")
        self.assertEqual(self.say("go"), "done 8")


class PapersByHand(DeskCase):
    def test_ordinary(self):
        self.assertEqual(self.say("rows 3 4"), "ok")
        self.assertEqual(self.say("paper"), shown((3, 4, ())))
        self.assertEqual(self.say("take 2 0 2"), "ok")
        self.assertEqual(self.say("put 0 8 -9"), "ok")
        self.assertEqual(self.say("paper"), "paper 3 4; take 2 0 2; put 0 8 -9; sum 827038")
        self.assertEqual(self.say("rows 0 0"), "ok")
        self.assertEqual(self.say("paper"), "paper 0 0; sum 7912")

    def test_signs_below_0(self):
        self.say("room 3 -1 -2", "rows 2 3", "put 0 -4", "put 1 -5 -6")
        self.assertEqual(self.say("paper"), shown((2, 3, (("put", 0, (-4,)), ("put", 1, (-5, -6))))))
        self.say("begin", "go 0 -9")
        self.assertEqual(self.say("cells"), "-9 -2 0")
        self.say("go")
        self.assertEqual(self.say("cells"), "-4 -5 -6")
        self.assertEqual(self.say("make 1 -6 -7"), "cost 7 plain 4 turned 0")

    def test_large_numbers(self):
        self.say(f"rows {LARGE} {LARGE}", f"take {LARGE} {LARGE} {LARGE}", f"put {LARGE} {LARGE} -{LARGE}")
        rows = (("take", LARGE, LARGE, LARGE), ("put", LARGE, (LARGE, -LARGE)))
        self.assertEqual(self.say("paper"), shown((LARGE, LARGE, rows)))
        self.assertEqual(read_paper(self.say("paper").replace("; ", "\n")), (LARGE, LARGE, rows))
        self.assertEqual(self.say("judge"), "size")
        for word in ("rows 0 NUMBER", "rows NUMBER 0", "take NUMBER 0 1", "take 0 NUMBER 1", "take 0 0 NUMBER",
                     "put NUMBER 1", "put 0 NUMBER", "put 0 -NUMBER"):
            self.refused(NoLine, word.replace("NUMBER", LONG))
        self.assertEqual(self.say("paper"), shown((LARGE, LARGE, rows)))

    def test_refused(self):
        self.say("rows 3 4", "put 0 5")
        for row in ("rows", "rows 1", "rows 1 2 3", "rows -1 2", "rows 1 -2", "rows 1 x", "rows 01 2", "rows 1  2",
                    "rows 1 2 ", "take", "take 1", "take 1 2", "take 1 2 3 4", "take -1 2 3", "take 1 -2 3",
                    "take 1 2 -3", "take 1 2 03", "take 1 2 x", "take  1 2 3", "put", "put 1", "put -1 2", "put 1 x",
                    "put 1 2  3", "put 1 2 ", "put 1 -0", "put 01 2", "put x 2", "paper 3 4", "sum 7", "take 0, 0, 1"):
            self.refused(NoLine, row)
        for row in ("take 0 0 0", "take 1 2 0", f"take {LARGE} 0 0"):
            self.refused(NoRow, row)
        self.assertEqual(self.say("paper"), shown((3, 4, (("put", 0, (5,)),))))

    def test_without_a_paper(self):
        self.say("room 3 1")
        for row in ("take 0 0 1", "take 0 0 0", "put 0 1", "judge", "paper", "begin"):
            self.refused(NoLine, row)

    def test_many_rows(self):
        self.say("rows 0 300")
        for at in range(300):
            self.say(f"put {at} {at}")
        self.assertEqual(self.say("judge"), "none")
        self.say("put 300 1")
        self.assertEqual(self.say("judge"), "size")


class Making(DeskCase):
    def test_ordinary(self):
        self.say("room 9 1 2 3 4")
        self.assertEqual(self.say("make 2 8 3 4 1 2"), "cost 9 plain 7 turned 1")
        self.assertEqual(self.say("paper"), shown((4, 5, (("take", 3, 0, 2), ("put", 0, (8, 3, 4))))))
        self.assertEqual(self.say("make 6 8 3 4 1 2"), "cost 7 plain 7 turned 0")
        self.assertEqual(self.say("paper"), shown(plain(4, [8, 3, 4, 1, 2])))

    def test_edges(self):
        self.say("room 9 1 2 3 4")
        self.assertEqual(self.say("make 1"), "cost 0 plain 0 turned 0")
        self.assertEqual(self.say("paper"), shown((4, 0, ())))
        self.assertEqual(self.say("make 1 4"), "cost 4 plain 3 turned 0")
        self.assertEqual(self.say("paper"), shown((4, 1, (("take", 0, 3, 1),))))
        self.assertEqual(self.say(f"make {LARGE} 4 -{LARGE}"), "cost 4 plain 4 turned 0")
        self.assertEqual(self.say("room 0", "make 6"), "cost 0 plain 0 turned 0")
        self.assertEqual(self.say("paper"), "paper 0 0; sum 7912")
        self.assertEqual(self.say("room 0", "make 1 5"), "cost 3 plain 3 turned 0")

    def test_refused(self):
        self.refused(NoLine, "make 1 2 3")
        self.say("rows 1 1")
        self.refused(NoLine, "make 1 2 3")
        self.say("room 9 1 2 3 4", "make 2 1 2")
        ahead = self.say("paper")
        for row in ("make", "make 0", "make 0 1 2", "make -1 2", "make x", "make 1 x", "make 1  2", "make 1 2 ",
                    "make 01 2", "make 1 02", f"make {LONG} 2", f"make 1 {LONG}", "made 1 2"):
            self.refused(NoLine, row)
            self.assertEqual(self.say("paper"), ahead)

    def test_beside_the_maker(self):
        chance = random.Random(4)
        for turn in range(60):
            elder = [chance.randrange(-2, 3) for at in range(chance.randrange(30))]
            newer = elder[10:20] + [7] + elder[:12] + elder[18:]
            least = chance.randrange(1, 8)
            self.say("room 60 " + " ".join(map(str, elder)) if elder else "room 60")
            paper, turned = made(elder, newer, least)
            self.assertEqual(self.say(" ".join(["make", str(least)] + [str(sign) for sign in newer])),
                             f"cost {cost(paper)} plain {cost(plain(0, newer))} turned {len(turned)}")
            self.assertEqual(self.say("paper"), shown(paper))
            self.assertEqual(self.say("judge"), "none")
            self.say("begin", "go")
            cells = self.say("cells").split(" ")
            self.assertEqual(cells[:len(newer)], [str(sign) for sign in newer])
            greatest = max(len(elder), len(newer))
            self.assertEqual(cells[greatest:], ["0"] * (60 - greatest))


class Judging(DeskCase):
    def test_each_fault(self):
        for rows, answer in ((("rows 0 0",), "none"), (("rows 301 0",), "size"), (("rows 0 301",), "size"),
                             (("rows 2 2", "take 0 0 2"), "none"), (("rows 2 2", "take 0 1 2"), "row 0"),
                             (("rows 2 2", "put 0 1", "put 1 1 1"), "row 1"), (("rows 2 2", "put 0 1 1", "put 1 1"), "twice 1 1"),
                             (("rows 2 3", "put 0 1 1"), "lacks 2"), (("rows 2 2", "take 0 1 1", "take 1 0 1"), "late 1 0")):
            self.say(*rows)
            self.assertEqual(self.say("judge"), answer)

    def test_it_needs_no_room_and_changes_nothing(self):
        self.say("rows 2 2", "put 0 1 1")
        ahead = self.say("paper")
        self.say("judge")
        self.assertEqual(self.say("paper"), ahead)
        self.laid()
        self.say("begin", "go 3")
        self.say("judge", "paper", "cells")
        self.assertEqual(self.say("go"), "done 6")

    def test_words_too_many(self):
        self.laid()
        self.say("begin")
        for row in ("judge 1", "judge ", "begin 0", "cells 1", "cells ", "paper 1", "Judge", "judge none"):
            self.refused(NoLine, row)


class Beginning(DeskCase):
    def test_faulty_ahead_of_unfit(self):
        self.laid("room 6 1 2 3", "rows 2 2", "take 0 1 1", "take 1 0 1")
        self.assertEqual(self.refused(Faulty, "begin").fault, ("late", 1, 0))
        self.refused(NoLine, "go")
        self.say("rows 2 2", "put 0 1 1")
        self.refused(Unfit, "begin")
        self.refused(NoLine, "go")
        self.assertEqual(self.say("cells"), "1 2 3 0 0 0")
        self.say("rows 301 1")
        self.assertEqual(self.refused(Faulty, "begin").fault, ("size",))

    def test_of_the_text_not_the_room(self):
        self.laid("room 6 1 2 3", "rows 6 6", "take 0 0 6")
        self.refused(Unfit, "begin")
        self.laid("room 6", "rows 0 1", "put 0 1")
        self.assertEqual(self.say("begin"), "ok")

    def test_without_a_room_or_a_paper(self):
        self.refused(NoLine, "begin")
        self.say("rows 0 0")
        self.refused(NoLine, "begin")
        self.say("rows 301 1")
        self.refused(NoLine, "begin")
        self.desk = Desk()
        self.say("room 3")
        self.refused(NoLine, "begin")

    def test_anew(self):
        self.laid("room 3 1 2 3", "rows 3 3", "put 0 7", "put 1 8", "put 2 9")
        self.say("begin")
        self.assertEqual(self.say("go 4"), "fallen")
        self.assertEqual(self.say("begin"), "ok")
        # From the first piece on again.
        self.assertEqual(self.say("go"), "done 6")

    def test_behind_a_go_that_was_to_fall_later(self):
        self.laid()
        for most in range(8, 20):
            self.say("room 6 1 2 3", "begin")
            self.assertEqual(self.say(f"go {most} 5"), "done 8")
            self.say("rows 4 4", "take 0 0 4")
            self.assertEqual(self.say("begin"), "ok")
            self.assertEqual(self.say("go"), "done 0")
            self.laid()


class Going(DeskCase):
    def test_to_the_end(self):
        self.laid()
        self.say("begin")
        self.assertEqual(self.say("go"), "done 8")
        self.assertEqual(self.say("cells"), "9 1 2 3 0 0")

    def test_nothing_to_do(self):
        for rows in (("rows 3 3", "take 0 0 3"), ("rows 3 0",)):
            for go in ("go", "go 0", "go 0 5", "go 7"):
                self.laid("room 6 1 2 3", *rows)
                self.say("begin")
                self.assertEqual(self.say(go), "done 0")
                self.assertEqual(self.say("cells"), "1 2 3 0 0 0")

    def test_at_most_so_many_writes(self):
        # Cell 3, note, cell 2, note, cell 1, note; cell 0, note.
        cells = ["1 2 3 0 0 0", "1 2 3 3 0 0", "1 2 3 3 0 0", "1 2 2 3 0 0", "1 2 2 3 0 0", "1 1 2 3 0 0", "1 1 2 3 0 0",
                 "9 1 2 3 0 0"]
        left = [8, 8, 6, 6, 4, 4, 2, 2]
        for most in range(8):
            self.laid()
            self.say("begin")
            self.assertEqual(self.say(f"go {most}"), "fallen")
            self.assertEqual(self.say("cells"), cells[most])
            self.assertEqual(self.say("go"), f"done {left[most]}")
            self.assertEqual(self.say("cells"), "9 1 2 3 0 0")
        for most in (8, 9, 300, LARGE):
            self.laid()
            self.say("begin")
            self.assertEqual(self.say(f"go {most}"), "done 8")
            self.assertEqual(self.say("cells"), "9 1 2 3 0 0")

    def test_amid_a_write(self):
        cells = ["1 2 3 S 0 0", "1 2 3 3 0 0", "1 2 S 3 0 0", "1 2 2 3 0 0", "1 S 2 3 0 0", "1 1 2 3 0 0", "S 1 2 3 0 0",
                 "9 1 2 3 0 0"]
        left = [8, 8, 6, 6, 4, 4, 2, 2]
        for sign in ("0", "-7", "9", str(LARGE), str(-LARGE)):
            for most in range(8):
                self.laid()
                self.say("begin")
                self.assertEqual(self.say(f"go {most} {sign}"), "fallen")
                self.assertEqual(self.say("cells"), cells[most].replace("S", sign))
                self.assertEqual(self.say("go"), f"done {left[most]}")
                self.assertEqual(self.say("cells"), "9 1 2 3 0 0")
            for most in (8, LARGE):
                self.laid()
                self.say("begin")
                self.assertEqual(self.say(f"go {most} {sign}"), "done 8")
                self.assertEqual(self.say("cells"), "9 1 2 3 0 0")

    def test_a_lost_note_is_lost(self):
        # The piece ahead of it is noted in the other note, so the second piece alone is done again.
        self.laid()
        self.say("begin")
        self.assertEqual(self.say("go 3 4"), "fallen")
        self.assertEqual(self.say("go 1"), "fallen")
        self.assertEqual(self.say("go"), "done 6")

    def test_each_go_counts_its_own_writes(self):
        self.laid()
        self.say("begin")
        self.assertEqual([self.say("go 2") for turn in range(4)], ["fallen", "fallen", "fallen", "done 2"])
        self.laid()
        self.say("begin")
        self.assertEqual([self.say("go 0") for turn in range(5)], ["fallen"] * 5)
        # One write is a cell's alone: no piece is ever noted.
        self.assertEqual([self.say("go 1") for turn in range(5)], ["fallen"] * 5)
        self.assertEqual(self.say("go 8"), "done 8")

    def test_only_where_a_paper_is_begun(self):
        for row in ("go", "go 0", "go 1 2"):
            self.desk = Desk()
            self.refused(NoLine, row)
            self.say("room 6 1 2 3")
            self.refused(NoLine, row)
            self.say("rows 3 4", "take 1 0 3", "put 0 9")
            self.refused(NoLine, row)
            self.say("begin", "go")
            self.refused(NoLine, row)
            self.assertEqual(self.say("cells"), "9 1 2 3 0 0")

    def test_what_ends_a_begun_paper(self):
        for row in ("room 6 1 2 3", "rows 3 3", "take 0 0 1", "put 0 1", "make 6 1"):
            for go in ((), ("go 1",)):
                self.laid()
                self.say("begin", *go)
                cells = self.say("cells")
                self.say(row)
                self.refused(NoLine, "go")
                self.refused(NoLine, "go 1 1")
                if row != "room 6 1 2 3":
                    self.assertEqual(self.say("cells"), cells)

    def test_what_does_not_end_it(self):
        self.laid()
        self.say("begin")
        for row in ("judge", "cells", "paper", "go 1", "go 2 2"):
            self.say(row)
        for row, kind in (("room 2 1 2 3", NoLine), ("room 301", NoLine), ("rows 1", NoLine), ("take 0 0", NoLine),
                          ("take 0 0 0", NoRow), ("put 0", NoLine), ("make 0 1", NoLine), ("go x", NoLine),
                          ("go -1", NoLine), ("go 1 2 3", NoLine), ("begin 1", NoLine), ("", NoLine), (None, NoLine)):
            cells, paper = self.say("cells"), self.say("paper")
            self.refused(kind, row)
            self.assertEqual((self.say("cells"), self.say("paper")), (cells, paper))
        self.assertEqual(self.say("go"), "done 6")
        self.assertEqual(self.say("cells"), "9 1 2 3 0 0")

    def test_refused_rows(self):
        self.laid()
        self.say("begin")
        for row in ("go -1", "go -1 5", "go x", "go 1 x", "go 1 2 3", "go ", "go  1", "go 1 ", "go 01", "go 1 02", "go +1",
                    f"go {LONG}", f"go 1 {LONG}", f"go 1 -{LONG}", "Go", "go\n", "go -0"):
            self.refused(NoLine, row)
        self.assertEqual(self.say("go"), "done 8")

    def test_a_room_too_small_for_the_newer_text(self):
        self.laid("room 3 1 2 3")
        self.assertEqual(self.say("begin"), "ok")
        for row in ("go", "go 0", "go 1 5"):
            self.assertEqual(self.refused(OutOfRoom, row).at, 4)
            self.assertEqual(self.say("cells"), "1 2 3")
            self.assertEqual(self.say("paper"), shown((3, 4, (("take", 1, 0, 3), ("put", 0, (9,))))))
        self.assertEqual(self.say("begin"), "ok")
        self.assertEqual(self.refused(OutOfRoom, "go").at, 4)

    def test_falls_by_chance(self):
        chance = random.Random(6)
        for turn in range(100):
            elder = [chance.randrange(9) for at in range(chance.randrange(1, 12))]
            newer = elder[3:] + [chance.randrange(9)] + elder[:5]
            self.say(" ".join(["room", "20"] + [str(sign) for sign in elder]))
            self.say(" ".join(["make", "1"] + [str(sign) for sign in newer]), "begin")
            answer = "fallen"
            while answer == "fallen":
                answer = self.say(chance.choice(("go", "go 0", "go 1 5", f"go {chance.randrange(20)}",
                                                 f"go {chance.randrange(20)} {chance.randrange(-9, 9)}")))
            self.assertEqual(self.say("cells").split(" ")[:len(newer)], [str(sign) for sign in newer])


class TheText(DeskCase):
    def test_ahead_of_the_end_it_is_what_room_told(self):
        self.laid()
        self.say("begin", "go 5")
        self.assertEqual(self.say("cells"), "1 1 2 3 0 0")
        self.assertEqual(self.say("make 3 1 2 3"), "cost 4 plain 5 turned 0")
        self.assertEqual(self.say("paper"), shown((3, 3, (("take", 0, 0, 3),))))
        self.assertEqual(self.say("begin"), "ok")

    def test_behind_the_end_it_is_the_newer_one(self):
        for go in (("go",), ("go 8",), ("go 3", "go 4 4", "go"), ("go 0 7", "go 8 7")):
            self.laid()
            self.say("begin", *go)
            # The old length of the paper is another one now.
            self.refused(Unfit, "begin")
            self.assertEqual(self.say("make 4 9 1 2 3"), "cost 4 plain 6 turned 0")
            self.assertEqual(self.say("paper"), shown((4, 4, (("take", 0, 0, 4),))))
            self.assertEqual(self.say("begin"), "ok")

    def test_a_shorter_text(self):
        self.laid("room 4 1 2 3", "rows 3 1", "take 0 2 1")
        self.say("begin", "go")
        self.assertEqual(self.say("cells"), "3 2 3 0")
        self.say("make 1 3 2")
        self.assertEqual(self.say("paper"), shown((1, 2, (("take", 0, 0, 1), ("put", 1, (2,))))))
        self.say("rows 1 0", "begin")
        self.assertEqual(self.say("go"), "done 0")
        self.say("rows 0 0")
        self.assertEqual(self.say("begin"), "ok")

    def test_one_paper_behind_another(self):
        self.say("room 8 1 2 3 4")
        for newer in ("4 1 2 3", "3 4 1 2 5 5", "5", "", "7 7 7 7 7 7 7 7", "1"):
            words = newer.split()
            self.say(" ".join(["make", "1"] + words), "begin")
            self.go_through("go 1", "go 2 3", "go 1 -1")
            self.assertEqual(self.say("cells").split(" ")[:len(words)], words)

    def test_the_same_paper_twice(self):
        self.laid("room 3 1 2 3", "rows 3 3", "put 2 9", "take 0 1 1", "take 1 1 1")
        self.say("begin", "go")
        self.assertEqual(self.say("cells"), "2 2 9")
        self.assertEqual(self.say("begin"), "ok")
        self.assertEqual(self.say("go"), "done 4")


class Rows(DeskCase):
    def test_what_is_no_row_of_the_desk(self):
        self.laid()
        self.say("begin")
        for row in ("", " ", "  ", "\n", "x", "go;", "help", "read", "write 0 1", "ok", "done 3", "sum 4", "0", "-1", "told",
                    "cells\n", " cells", "cells ", "paper;", "PAPER", "cells; cells", "take", "begin begin"):
            self.refused(NoLine, row)
        self.assertEqual(self.say("go"), "done 8")

    def test_what_is_no_text(self):
        self.laid()
        for row in (None, 0, True, ["cells"], ("cells",), b"cells", {}, {"cells": 1}, Desk()):
            self.refused(NoLine, row)
        self.assertEqual(self.say("cells"), "1 2 3 0 0 0")

    def test_without_a_room(self):
        for row in ("cells", "make 1 1", "begin", "go", "go 1", "go 1 1"):
            self.refused(NoLine, row)
        self.say("rows 0 0")
        for row in ("cells", "make 1 1", "begin", "go", "go 1", "go 1 1"):
            self.refused(NoLine, row)
        self.assertEqual(self.say("paper"), "paper 0 0; sum 7912")

    def test_desks_share_nothing(self):
        self.laid()
        ahead = self.desk
        self.desk = Desk()
        self.refused(NoLine, "cells")
        self.refused(NoLine, "paper")
        self.say("room 1 5", "rows 1 1")
        self.desk = ahead
        self.assertEqual(self.say("cells"), "1 2 3 0 0 0")
        self.assertEqual(self.say("judge"), "none")


class BesideTheDocument(DeskCase):
    def test_papers_by_hand_mean_what_comes_of_them(self):
        chance = random.Random(11)
        tried = 0
        while tried < 100:
            old, new = chance.randrange(6), chance.randrange(1, 6)
            rows, to = [], 0
            while to < new:
                count = chance.randrange(1, new - to + 1)
                if count <= old and chance.randrange(3):
                    rows.append(("take", to, chance.randrange(old - count + 1), count))
                else:
                    rows.append(("put", to, tuple(chance.randrange(50, 60) for at in range(count))))
                to = to + count
            chance.shuffle(rows)
            paper = (old, new, tuple(rows))
            elder = list(range(1, old + 1))
            self.say(" ".join(["room", "7"] + [str(sign) for sign in elder]), f"rows {old} {new}")
            for row in rows:
                numbers = row[1:] if row[0] == "take" else (row[1],) + row[2]
                self.say(" ".join([row[0]] + [str(number) for number in numbers]))
            self.assertEqual(self.say("paper"), shown(paper))
            fault = judge(paper)
            if fault is not None:
                self.assertEqual(self.say("judge"), " ".join(map(str, fault)))
                self.assertEqual(self.refused(Faulty, "begin").fault, fault)
                continue
            tried = tried + 1
            self.say("begin")
            self.go_through("go 1", "go 2 70")
            cells = meant(paper, elder) + (elder + [0] * 7)[new:7]
            self.assertEqual(self.say("cells"), " ".join(map(str, cells)))


if __name__ == "__main__":
    unittest.main()
