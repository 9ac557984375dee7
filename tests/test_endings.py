import itertools
import unittest

from oneroom.endings import endings, longest

LARGE = 10 ** 60 - 1


def texts(signs, most):
    for length in range(most + 1):
        for text in itertools.product(signs, repeat=length):
            yield list(text)


def is_less(one, other):
    """By the document's own words, sign by sign."""
    for left, right in zip(one, other):
        if left != right:
            return left < right
    return len(one) < len(other)


def longest_by_looking(text, part):
    for count in range(len(part), 0, -1):
        for at in range(len(text)):
            if text[at:at + count] == part[:count]:
                return (at, count)
    return (0, 0)


class Endings(unittest.TestCase):
    def test_the_document_s_example(self):
        self.assertEqual(endings([7, 3, 7]), [1, 2, 0])

    def test_the_empty_text(self):
        self.assertEqual(endings([]), [])

    def test_one_sign_again_and_again(self):
        self.assertEqual(endings([4]), [0])
        self.assertEqual(endings([4] * 300), list(range(299, -1, -1)))

    def test_large_signs_and_signs_below_0(self):
        self.assertEqual(endings([LARGE, -LARGE, 0, LARGE - 1, -1]), [1, 4, 2, 3, 0])
        self.assertEqual(endings([-1, -2, -1]), [1, 2, 0])
        self.assertEqual(endings([10, 9, 100]), [1, 0, 2])

    def test_every_small_text(self):
        for text in texts((-1, 0, 1), 5):
            table = endings(text)
            self.assertIs(type(table), list)
            self.assertEqual(sorted(table), list(range(len(text))))
            for one, other in zip(table, table[1:]):
                self.assertTrue(is_less(text[one:], text[other:]), text)

    def test_what_is_handed_in_stays(self):
        text = [7, 3, 7]
        table = endings(text)
        self.assertEqual(text, [7, 3, 7])
        table.append(9)
        self.assertEqual(endings(text), [1, 2, 0])


class Longest(unittest.TestCase):
    def ask(self, text, part):
        return longest(text, endings(text), part)

    def test_an_empty_part(self):
        self.assertEqual(self.ask([7, 3, 7], []), (0, 0))
        self.assertEqual(self.ask([], []), (0, 0))

    def test_not_even_the_first_sign(self):
        for sign in (-LARGE, 2, 4, 8, LARGE):
            self.assertEqual(self.ask([7, 3, 7], [sign, 3, 7]), (0, 0))
        self.assertEqual(self.ask([], [1]), (0, 0))

    def test_a_whole_part(self):
        self.assertEqual(self.ask([1, 2, 3, 4], [2, 3]), (1, 2))
        self.assertEqual(self.ask([1, 2, 3, 4], [4]), (3, 1))

    def test_a_beginning_alone(self):
        self.assertEqual(self.ask([1, 2, 3, 4], [2, 3, 9]), (1, 2))
        self.assertEqual(self.ask([1, 2, 3, 4], [2, 3, 0]), (1, 2))

    def test_a_part_longer_than_the_text(self):
        self.assertEqual(self.ask([1, 2], [1, 2, 3]), (0, 2))
        self.assertEqual(self.ask([1, 2], [2, 1, 2, 1]), (1, 1))
        self.assertEqual(self.ask([5] * 3, [5] * 9), (0, 3))

    def test_the_least_place_is_told(self):
        self.assertEqual(self.ask([7, 3, 7], [7]), (0, 1))
        self.assertEqual(self.ask([7, 3, 7], [7, 8]), (0, 1))
        self.assertEqual(self.ask([9, 1, 2, 9, 1, 2, 0, 1, 2], [1, 2]), (1, 2))
        self.assertEqual(self.ask([9, 1, 2, 9, 1, 2, 0, 1, 2], [1, 2, 5]), (1, 2))
        self.assertEqual(self.ask([5] * 300, [5] * 299), (0, 299))

    def test_the_greater_count_goes_ahead_of_the_lesser_place(self):
        self.assertEqual(self.ask([1, 0, 1, 2, 1, 2, 3], [1, 2, 3, 4]), (4, 3))

    def test_large_signs_and_signs_below_0(self):
        self.assertEqual(self.ask([-LARGE, LARGE, -1], [LARGE, -1, 0]), (1, 2))

    def test_every_small_text_and_part(self):
        for text in texts((-1, 0, 1), 4):
            table = endings(text)
            for part in texts((-1, 0, 1), 5):
                told = longest(text, table, part)
                self.assertEqual(told, longest_by_looking(text, part), (text, part))
                self.assertIs(type(told), tuple)

    def test_longer_texts_of_two_signs(self):
        for text in itertools.product((0, 1), repeat=8):
            text = list(text)
            table = endings(text)
            for part in texts((0, 1), 4):
                self.assertEqual(longest(text, table, part), longest_by_looking(text, part), (text, part))

    def test_what_is_handed_in_stays(self):
        text, table, part = [7, 3, 7], [1, 2, 0], [7, 3, 5]
        self.assertEqual(longest(text, table, part), (0, 2))
        self.assertEqual((text, table, part), ([7, 3, 7], [1, 2, 0], [7, 3, 5]))


if __name__ == "__main__":
    unittest.main()
