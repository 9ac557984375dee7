import random
import re
import unittest

from oneroom.errors import NoPaper, NoRow
from oneroom.judge import judge
from oneroom.texts import paper_text, read_paper, sum_of

LARGE = 10 ** 60 - 1

PAPERS = (
    (0, 0, ()),
    (5, 0, ()),
    (300, 300, ()),
    (3, 4, (("take", 2, 0, 2), ("put", 0, (8, 9)))),
    (1, 1, (("take", 0, 0, 1),)),
    (0, 3, (("put", 0, (-1, 0, -LARGE)),)),
    (7, 2, (("put", 1, (0,)), ("take", 0, 6, 1))),
    # With a fault each.
    (301, LARGE, ()),
    (2, 2, (("take", LARGE, LARGE, LARGE), ("put", LARGE, (LARGE, -LARGE)))),
    (2, 2, (("take", 0, 1, 1), ("take", 1, 0, 1))),
    (2, 2, (("take", 0, 1, 1), ("take", 0, 1, 1))),
)


def sum_by_looking(numbers):
    """The rule's own words, without the rest in between: the numbers are small enough for that."""
    total = 0
    for number in numbers:
        total = total * 31 + number + 7
    return total - total // 1000003 * 1000003


def text_by_looking(paper):
    rows, numbers = [f"paper {paper[0]} {paper[1]}"], [1, paper[0], paper[1]]
    for row in paper[2]:
        if row[0] == "take":
            rows.append(f"take {row[1]} {row[2]} {row[3]}")
            numbers = numbers + [2, row[1], row[2], row[3]]
        else:
            rows.append("put " + " ".join(map(str, (row[1],) + row[2])))
            numbers = numbers + [3, row[1]] + list(row[2])
    return "\n".join(rows + [f"sum {sum_by_looking(numbers)}"])


def with_sum(*rows):
    """The rows and a right sum, reckoned over whatever numbers stand in them."""
    numbers = []
    for row in rows:
        words = row.split(" ")
        numbers.append({"paper": 1, "take": 2, "put": 3}.get(words[0], 0))
        numbers.extend(int(word) for word in words[1:] if re.fullmatch("[+-]?[0-9]{1,70}", word))
    return "\n".join(rows + (f"sum {sum_by_looking(numbers)}",))


class Sums(unittest.TestCase):
    def test_of_none_and_one(self):
        self.assertEqual(sum_of([]), 0)
        self.assertEqual(sum_of([0]), 7)
        self.assertEqual(sum_of([5]), 12)
        self.assertEqual(sum_of([-7]), 0)
        self.assertEqual(sum_of([-8]), 1000002)
        self.assertEqual(sum_of([999995]), 1000002)
        self.assertEqual(sum_of([999996]), 0)

    def test_of_several(self):
        self.assertEqual(sum_of([1, 3, 4]), (8 * 31 + 10) * 31 + 11)
        self.assertEqual(sum_of([1, 0, 0]), (8 * 31 + 7) * 31 + 7)
        self.assertEqual(sum_of([-8, -8]), 1000003 - 31 - 1)
        self.assertEqual(sum_of([0, 0, 0, 0, 0]), 7 * (31 ** 4 + 31 ** 3 + 31 ** 2 + 31 + 1) % 1000003)

    def test_of_many_by_chance(self):
        chance = random.Random(8)
        for turn in range(300):
            numbers = [chance.choice((chance.randrange(-9, 10), chance.randrange(-LARGE, LARGE + 1)))
                       for number in range(chance.randrange(40))]
            kept = list(numbers)
            self.assertEqual(sum_of(numbers), sum_by_looking(kept))
            self.assertEqual(numbers, kept)


class Shown(unittest.TestCase):
    def test_without_rows(self):
        self.assertEqual(paper_text((0, 0, ())), "paper 0 0\nsum 7912")
        self.assertEqual(paper_text((3, 4, ())), "paper 3 4\nsum 8009")

    def test_with_rows(self):
        self.assertEqual(paper_text((3, 4, (("take", 2, 0, 2), ("put", 0, (8, -9))))),
                         "paper 3 4\ntake 2 0 2\nput 0 8 -9\nsum 827038")
        self.assertEqual(sum_of([1, 3, 4, 2, 2, 0, 2, 3, 0, 8, -9]), 827038)

    def test_each_against_the_words(self):
        for paper in PAPERS:
            self.assertEqual(paper_text(paper), text_by_looking(paper))

    def test_sixty_figures(self):
        text = paper_text((2, 2, (("put", LARGE, (-LARGE,)),)))
        self.assertEqual(text.split("\n")[1], "put " + "9" * 60 + " -" + "9" * 60)

    def test_rows_in_their_order(self):
        one, other = ("put", 0, (1,)), ("put", 1, (2,))
        self.assertNotEqual(paper_text((0, 2, (one, other))), paper_text((0, 2, (other, one))))
        self.assertEqual(paper_text((0, 2, (other, one))).split("\n")[1:3], ["put 1 2", "put 0 1"])

    def test_what_is_no_row(self):
        for row in (("put", 0, ()), ["put", 0, (1,)], ("take", 0, 0, 0), None):
            with self.assertRaises(NoRow):
                paper_text((1, 1, (row,)))


class Read(unittest.TestCase):
    def assert_refused(self, text):
        with self.assertRaises(NoPaper, msg=repr(text)):
            read_paper(text)

    def test_what_was_shown(self):
        for paper in PAPERS:
            self.assertEqual(read_paper(paper_text(paper)), paper)

    def test_the_kinds(self):
        old, new, rows = read_paper(paper_text(PAPERS[3]))
        self.assertEqual([type(part) for part in (old, new, rows) + rows + rows[1]],
                         [int, int, tuple, tuple, tuple, str, int, tuple])

    def test_papers_by_chance(self):
        chance = random.Random(3)
        for turn in range(300):
            rows = []
            for number in range(chance.randrange(8)):
                if chance.randrange(2):
                    rows.append(("take", chance.randrange(300), chance.randrange(10 ** 30), chance.randrange(1, 300)))
                else:
                    signs = tuple(chance.randrange(-LARGE, LARGE) for at in range(chance.randrange(1, 9)))
                    rows.append(("put", chance.randrange(9), signs))
            paper = (chance.randrange(400), chance.randrange(400), tuple(rows))
            self.assertEqual(read_paper(text_by_looking(paper)), paper)

    def test_many_rows(self):
        paper = (0, 301, tuple(("put", at, (at,)) for at in range(301)))
        self.assertEqual(judge(paper), ("size",))
        self.assertEqual(read_paper(paper_text(paper)), paper)

    def test_lengths_below_0(self):
        # A fault of the paper's size, not of its rows.
        for paper in ((-1, 3, ()), (3, -LARGE, (("put", 0, (1,)),))):
            self.assertEqual(judge(paper), ("size",))
            self.assertEqual(read_paper(text_by_looking(paper)), paper)

    def test_what_is_no_text(self):
        for wrong in (None, 0, True, ("paper 0 0", "sum 7912"), ["paper 0 0\nsum 7912"], (0, 0, ()),
                      b"paper 0 0\nsum 7912", {}):
            self.assert_refused(wrong)

    def test_hardly_any_text(self):
        for wrong in ("", " ", "\n", "\n\n", "paper", "sum", "sum 0", "paper 0 0", "paper 0 0\n", "paper\nsum 8",
                      "paper 0\nsum 255", "-", "paper 0 0\nsum", "paper 0 0\nsum -", "sum 7912\npaper 0 0"):
            self.assert_refused(wrong)

    def test_line_feeds_and_blanks_more_or_less(self):
        for paper in PAPERS:
            text = paper_text(paper)
            for wrong in ("\n" + text, text + "\n", " " + text, text + " ", text.replace("\n", "\n\n"),
                          text.replace("\n", " \n"), text.replace("\n", "\n "), text.replace("\n", "\r\n"),
                          text.replace(" ", "  "), text.replace(" ", "\t"), text.replace("\n", " "),
                          text.replace("\n", "; "), text + "\n" + text, text + "\nsum 7"):
                self.assert_refused(wrong)
            for at, sign in enumerate(text):
                if sign in " \n":
                    self.assert_refused(text[:at] + text[at + 1:])
                    self.assert_refused(text[:at] + sign + text[at:])
                    self.assert_refused(text[:at] + " \n".replace(sign, "") + text[at + 1:])

    def test_each_word_left_out_twice_or_another_one(self):
        for paper in PAPERS:
            rows = [row.split(" ") for row in paper_text(paper).split("\n")]
            for k, row in enumerate(rows):
                for at, word in enumerate(row):
                    for words in ([], [word, word], ["7", word], [word, "7"], [word + "x"], ["x" + word], [word.upper() + "_"],
                                  ["+" + word], ["0" + word], ["--" + word], [word + ".0"], ["1_0"], ["0x1"], ["-"], ["no"]):
                        changed = rows[:k] + [row[:at] + words + row[at + 1:]] + rows[k + 1:]
                        self.assert_refused("\n".join(" ".join(words) for words in changed))

    def test_each_row_left_out_twice_or_turned_about(self):
        for paper in PAPERS:
            rows = paper_text(paper).split("\n")
            for k in range(len(rows)):
                self.assert_refused("\n".join(rows[:k] + rows[k + 1:]))
                self.assert_refused("\n".join(rows[:k + 1] + rows[k:]))
                other = rows[:k] + rows[k + 1:k + 2] + rows[k:k + 1] + rows[k + 2:]
                if other != rows:
                    self.assert_refused("\n".join(other))

    def test_a_wrong_sum(self):
        for paper in PAPERS:
            text = paper_text(paper)
            ahead, total = text.rsplit(" ", 1)
            for wrong in (int(total) + 1, int(total) - 1, int(total) + 1000003, int(total) - 1000003, -int(total) - 1):
                self.assert_refused(f"{ahead} {wrong}")
            self.assert_refused(f"{ahead} 0{total}")
            self.assert_refused(f"{ahead} +{total}")
            self.assert_refused(ahead)

    def test_each_figure_changed(self):
        text = paper_text((3, 4, (("take", 2, 0, 2), ("put", 0, (8, -9)))))
        for at, sign in enumerate(text):
            for other in "0123456789-+ x":
                if other != sign:
                    self.assert_refused(text[:at] + other + text[at + 1:])

    def test_rows_that_are_none_with_a_right_sum(self):
        self.assertEqual(read_paper(with_sum("paper 2 2", "take 0 1 1")), (2, 2, (("take", 0, 1, 1),)))
        for row in ("take 0 0 0", "take -1 0 1", "take 0 -1 1", "take 0 0 -1", "take 0 0", "take 0 0 1 1", "take",
                    "put", "put 0", "put -1 5", "put 0 ", "put  0 1", "Take 0 0 1", "puts 0 1", "paper 2 2", "", "sum 4",
                    "take 0 0 01", "take 00 0 1", "take -0 0 1", "put 0 -0", "put 0 +1", "put 0 05", "put 0 -05",
                    "put 0 1 x", "put 0 --1", "put 0 -", "take 0 0 1 ", " take 0 0 1"):
            self.assert_refused(with_sum("paper 2 2", row))
            self.assert_refused(with_sum("paper 2 2", "take 0 1 1", row))
        for head in ("paper 2", "paper 2 2 2", "paper", "Paper 2 2", "paper 02 2", "paper 2 -0", "paper +2 2", "paper x 2",
                     "take 0 0 1", "put 0 1", "paper 2 2 ", " paper 2 2"):
            self.assert_refused(with_sum(head))
            self.assert_refused(with_sum(head, "take 0 1 1"))

    def test_sixty_and_sixty_one_figures(self):
        long = "1" + "0" * 60
        for form in ("take NUMBER 0 1", "take 0 NUMBER 1", "take 0 0 NUMBER", "put NUMBER 1", "put 0 NUMBER", "put 0 -NUMBER",
                     "put 0 1 NUMBER 2"):
            whole = with_sum("paper 2 2", form.replace("NUMBER", str(LARGE)))
            self.assertEqual(paper_text(read_paper(whole)), whole)
            self.assert_refused(with_sum("paper 2 2", form.replace("NUMBER", long)))
            self.assert_refused(with_sum("paper 2 2", form.replace("NUMBER", "1" * 5000)))
        for head in ("paper NUMBER 0", "paper 0 NUMBER"):
            whole = with_sum(head.replace("NUMBER", str(LARGE)))
            self.assertEqual(paper_text(read_paper(whole)), whole)
            self.assert_refused(with_sum(head.replace("NUMBER", long)))


if __name__ == "__main__":
    unittest.main()
