import unittest

from oneroom.errors import (
    Down, Fallen, Faulty, NoLine, NoPaper, NoRow, NoTrial, NoWayBack, OnTrial, OutOfRoom, RoomError, Unfit,
)

PLAIN = (NoRow, NoPaper, Unfit, Down, OnTrial, NoTrial, NoWayBack, NoLine)
REFUSALS = PLAIN + (OutOfRoom, Fallen, Faulty)


class Errors(unittest.TestCase):
    def test_all_stand_under_room_error(self):
        self.assertEqual(RoomError.__bases__, (ValueError,))
        for refusal in REFUSALS:
            self.assertEqual(refusal.__bases__, (RoomError,), refusal)

    def test_no_refusal_stands_under_another_one(self):
        for one in REFUSALS:
            for other in REFUSALS:
                if one is not other:
                    self.assertFalse(issubclass(one, other), (one, other))

    def test_values_are_set_when_made(self):
        self.assertEqual(OutOfRoom(-1).at, -1)
        self.assertEqual(Fallen(3).count, 3)
        self.assertEqual(Faulty(("late", 1, 2)).fault, ("late", 1, 2))

    def test_values_are_each_error_s_own(self):
        one, other = OutOfRoom(1), OutOfRoom(2)
        self.assertEqual((one.at, other.at), (1, 2))

    def test_a_refusal_is_raised_and_taken_by_its_name(self):
        for refusal in PLAIN:
            for made in (refusal(), refusal("words")):
                with self.assertRaises(refusal):
                    raise made


if __name__ == "__main__":
    unittest.main()
