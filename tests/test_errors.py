"""[2] and the interface: the classes of refusal."""

import unittest

from evenpieces.errors import (
    EvenError, NoFraction, NoGoods, NoHand, NoMoment, NoMost, NoMove, NoPiece,
    NoRow, NoRule, NoStand, NotLetBy, NoText, NoWeb, NoWeight, NoYard,
)

REFUSALS = [
    NoWeb, NoHand, NoGoods, NoPiece, NoStand, NoMove, NoRule, NotLetBy,
    NoMoment, NoMost, NoWeight, NoFraction, NoText, NoRow, NoYard,
]


class Refusals(unittest.TestCase):
    def test_there_are_fifteen(self):
        self.assertEqual(len(set(REFUSALS)), 15)

    def test_the_base_is_a_value_error(self):
        self.assertTrue(issubclass(EvenError, ValueError))
        self.assertNotIn(EvenError, REFUSALS)

    def test_each_stands_under_the_base(self):
        for refusal in REFUSALS:
            with self.subTest(refusal=refusal):
                self.assertTrue(issubclass(refusal, EvenError))
                self.assertTrue(issubclass(refusal, ValueError))

    def test_none_stands_under_another_one(self):
        for one in REFUSALS:
            for other in REFUSALS:
                if one is not other:
                    with self.subTest(one=one, other=other):
                        self.assertFalse(issubclass(one, other))

    def test_each_has_its_own_name(self):
        names = [
            "NoWeb", "NoHand", "NoGoods", "NoPiece", "NoStand", "NoMove", "NoRule", "NotLetBy",
            "NoMoment", "NoMost", "NoWeight", "NoFraction", "NoText", "NoRow", "NoYard",
        ]
        self.assertEqual([refusal.__name__ for refusal in REFUSALS], names)


class TheMoveThatCannotBeMade(unittest.TestCase):
    def test_its_fields_tell_place_and_reason(self):
        for k, reason in [(0, "form"), (7, "ways"), (-1, "form")]:
            with self.subTest(k=k, reason=reason):
                error = NoMove(k, reason)
                self.assertEqual((error.k, error.reason), (k, reason))

    def test_it_is_raised_and_taken_as_any_refusal(self):
        with self.assertRaises(EvenError) as taken:
            raise NoMove(3, "tie")
        self.assertEqual((taken.exception.k, taken.exception.reason), (3, "tie"))


if __name__ == "__main__":
    unittest.main()
