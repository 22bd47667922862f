"""Points 1.1 to 1.4, and 0.3, 0.5, 0.7 and 0.9 as far as they speak of shares."""

import inspect
import unittest
from fractions import Fraction
from math import floor

from seenshares.errors import BadShare, NoShare, SeenError
from seenshares.shares import Share
from tests.objects import others

LARGE = 10 ** 99 + 7
TOPS = [-LARGE, -12, -7, -3, -2, -1, 0, 1, 2, 3, 4, 9, LARGE]
BOTTOMS = [-LARGE - 2, -6, -4, -1, 1, 2, 3, 8, LARGE + 1]
PAIRS = [(top, bottom) for top in TOPS for bottom in BOTTOMS]
SMALL = [(top, bottom) for top in (-7, -3, -1, 0, 1, 2, 6) for bottom in (-4, -3, -1, 1, 2, 5)]
INTEGERS = [-LARGE, -5, -2, -1, 0, 1, 2, 3, LARGE]


def both(share):
    """The top and the bottom of what has to be a share with plain integers."""
    assert type(share) is Share and type(share.top) is int and type(share.bottom) is int
    return share.top, share.bottom


def same(fraction):
    """The top and the bottom of a fraction of Python's own."""
    return fraction.numerator, fraction.denominator


class MakeTest(unittest.TestCase):

    def part(self, *given):
        with self.assertRaises(BadShare) as caught:
            Share(*given)
        return caught.exception.part

    def test_lowest_terms_with_a_bottom_of_at_least_one(self):
        self.assertEqual(both(Share(6, -4)), (-3, 2))
        self.assertEqual(both(Share(-6, -4)), (3, 2))
        self.assertEqual(both(Share(-6, 4)), (-3, 2))
        self.assertEqual(both(Share(6, 4)), (3, 2))
        self.assertEqual(both(Share(5, 7)), (5, 7))
        for top, bottom in PAIRS:
            self.assertEqual(both(Share(top, bottom)), same(Fraction(top, bottom)))

    def test_large_numbers_are_exact(self):
        self.assertEqual(both(Share(6 * LARGE, -4 * LARGE)), (-3, 2))
        self.assertEqual(both(Share(LARGE, LARGE + 1)), (LARGE, LARGE + 1))

    def test_the_value_zero(self):
        for bottom in BOTTOMS:
            self.assertEqual(both(Share(0, bottom)), (0, 1))

    def test_the_bottom_left_out_is_one(self):
        for top in TOPS:
            self.assertEqual(both(Share(top)), (top, 1))

    def test_names_of_the_parameters(self):
        self.assertEqual(both(Share(bottom=4, top=2)), (1, 2))
        self.assertEqual(str(inspect.signature(Share)), "(top, bottom=1)")

    def test_the_attributes_are_set_on_the_object(self):
        self.assertEqual(vars(Share(1, 2)), {"top": 1, "bottom": 2})

    def test_a_bad_top(self):
        for thing in others(int):
            self.assertEqual(self.part(thing), "top")
            self.assertEqual(self.part(thing, 3), "top")
        for thing in (True, None, "1", (1,), [1], {1: 1}):
            self.assertEqual(self.part(thing, 3), "top")

    def test_a_bad_bottom(self):
        for thing in others(int):
            self.assertEqual(self.part(3, thing), "bottom")
        for thing in (True, None, "1", (1,), [1], {1: 1}, 0):
            self.assertEqual(self.part(3, thing), "bottom")
            self.assertEqual(self.part(0, thing), "bottom")

    def test_a_bad_top_comes_first(self):
        for top in (True, None, "1", (1,), [1], {1: 1}):
            for bottom in (True, None, "1", (1,), [1], {1: 1}, 0):
                self.assertEqual(self.part(top, bottom), "top")


class ArithmeticTest(unittest.TestCase):

    def check_pair(self, one, other, first, second):
        """Compare the answers for two operands with those for two fractions of the same values."""
        self.assertEqual(both(one + other), same(first + second))
        self.assertEqual(both(one - other), same(first - second))
        self.assertEqual(both(one * other), same(first * second))
        if second == 0:
            with self.assertRaises(NoShare):
                one // other
        else:
            self.assertIs(type(one // other), int)
            self.assertEqual(one // other, floor(first / second))

    def test_two_shares(self):
        for first in SMALL:
            for second in SMALL + [(LARGE, 3), (-2, LARGE)]:
                one, other = Share(*first), Share(*second)
                self.check_pair(one, other, Fraction(*first), Fraction(*second))
                self.assertEqual((both(one), both(other)), (same(Fraction(*first)), same(Fraction(*second))))

    def test_an_integer_on_the_right(self):
        for first in SMALL:
            for number in INTEGERS:
                one = Share(*first)
                self.check_pair(one, number, Fraction(*first), Fraction(number))
                self.assertEqual(both(one), same(Fraction(*first)))

    def test_an_integer_on_the_left(self):
        for second in SMALL:
            for number in INTEGERS:
                other = Share(*second)
                self.check_pair(number, other, Fraction(number), Fraction(*second))
                self.assertEqual(both(other), same(Fraction(*second)))

    def test_a_few_sums_and_products_by_hand(self):
        self.assertEqual(both(Share(1, 2) + Share(1, 3)), (5, 6))
        self.assertEqual(both(Share(1, 6) + Share(1, 3)), (1, 2))
        self.assertEqual(both(1 - Share(1, 3)), (2, 3))
        self.assertEqual(both(Share(1, 3) - 1), (-2, 3))
        self.assertEqual(both(-2 * Share(3, 4)), (-3, 2))
        self.assertEqual(both(sum([Share(1, 4), Share(1, 4)])), (1, 2))

    def test_floors_of_quotients_by_hand(self):
        self.assertEqual(Share(-1, 2) // 1, -1)
        self.assertEqual(Share(1, 2) // -1, -1)
        self.assertEqual(-1 // Share(2, 3), -2)
        self.assertEqual(3 // Share(2, 5), 7)
        self.assertEqual(Share(3, 2) // Share(1, 2), 3)
        self.assertEqual(Share(-3, 2) // Share(1, 2), -3)

    def test_over(self):
        for first in SMALL:
            for second in SMALL:
                if second[0] != 0:
                    one, other = Share(*first), Share(*second)
                    self.assertEqual(both(one.over(other)), same(Fraction(*first) / Fraction(*second)))
                    self.assertEqual((both(one), both(other)), (same(Fraction(*first)), same(Fraction(*second))))
            for number in INTEGERS:
                if number != 0:
                    self.assertEqual(both(Share(*first).over(number)), same(Fraction(*first) / number))

    def test_a_quotient_by_zero(self):
        zero = Share(0, 5)
        for one in (Share(3, 4), Share(-1), Share(0)):
            for nothing in (zero, 0):
                with self.assertRaises(NoShare):
                    one // nothing
                with self.assertRaises(NoShare):
                    one.over(nothing)
        for number in INTEGERS:
            with self.assertRaises(NoShare):
                number // zero
        self.assertEqual(both(zero), (0, 1))

    def test_minus_and_abs(self):
        for top, bottom in PAIRS:
            share = Share(top, bottom)
            self.assertEqual(both(-share), same(-Fraction(top, bottom)))
            self.assertEqual(both(abs(share)), same(abs(Fraction(top, bottom))))
            self.assertEqual(both(share), same(Fraction(top, bottom)))

    def test_other_objects_do_not_pass_unseen(self):
        # Nothing is promised of them; an answer that looks like a share would hide a mistake.
        for thing in (None, "1", [1], {}, True, 1.5):
            for work in (lambda x, y: x + y, lambda x, y: x - y, lambda x, y: x * y, lambda x, y: x // y,
                         lambda x, y: x < y, lambda x, y: x <= y, lambda x, y: x > y, lambda x, y: x >= y):
                self.assertRaises((TypeError, SeenError), work, Share(1, 2), thing)
                self.assertRaises((TypeError, SeenError), work, thing, Share(1, 2))


class CompareTest(unittest.TestCase):

    def check_pair(self, one, other, first, second):
        """Compare the six comparisons with those of two fractions of the same values."""
        answers = [one == other, one != other, one < other, one <= other, one > other, one >= other]
        wanted = [first == second, first != second, first < second, first <= second, first > second, first >= second]
        self.assertEqual(answers, wanted, (first, second))
        self.assertEqual([type(answer) for answer in answers], [bool] * 6)

    def test_two_shares(self):
        for first in PAIRS:
            for second in SMALL:
                self.check_pair(Share(*first), Share(*second), Fraction(*first), Fraction(*second))

    def test_an_integer_on_either_side(self):
        for first in PAIRS:
            for number in INTEGERS:
                self.check_pair(Share(*first), number, Fraction(*first), number)
                self.check_pair(number, Share(*first), number, Fraction(*first))

    def test_close_values_of_large_numbers(self):
        one, other = Share(LARGE, LARGE + 1), Share(LARGE + 1, LARGE + 2)
        self.assertTrue(one < other and one <= other and one != other)
        self.assertFalse(one > other or one >= other or one == other)

    def test_equal_to_no_other_object(self):
        for share in (Share(0), Share(1), Share(1, 2), Share(-1), Share(10 ** 99)):
            for thing in others(int, Share) + ["1/2", (1, 2), [1, 2], {"top": 1}, 0.5, -1.0, Fraction(1, 2)]:
                self.assertIs(share == thing, False)
                self.assertIs(thing == share, False)
                self.assertIs(share != thing, True)
                self.assertIs(thing != share, True)
        self.assertFalse(Share(1) == True or Share(0) == False)

    def test_found_in_a_list_just_if_an_equal_one_is_there(self):
        rows = [None, True, "1/2", Share(2, 4), 3, (5, 6), Share(-8, 2)]
        self.assertIn(Share(1, 2), rows)
        self.assertIn(Share(3), rows)
        self.assertIn(-4, rows)
        self.assertEqual(rows.index(Share(-4)), 6)
        self.assertEqual(rows.count(Share(1, 2)), 1)
        for share in (Share(1), Share(0), Share(1, 3), Share(5, 6), Share(4)):
            self.assertNotIn(share, rows)

    def test_equal_in_tuples(self):
        self.assertEqual((Share(1, 2), Share(2)), (Share(3, 6), 2))
        self.assertNotEqual((Share(1, 2), Share(2)), (Share(1, 2), Share(3)))

    def test_ascending_order(self):
        rows = [Share(1, 2), 1, Share(-3, 2), 0, Share(1, 3), -1, Share(7, 2)]
        self.assertEqual([str(row) for row in sorted(rows)], ["-3/2", "-1", "0", "1/3", "1/2", "1", "7/2"])
        self.assertEqual([str(max(rows)), str(min(rows))], ["7/2", "-3/2"])


class TellTest(unittest.TestCase):

    def test_floor(self):
        for top, bottom in PAIRS:
            told = Share(top, bottom).floor()
            self.assertIs(type(told), int)
            self.assertEqual(told, floor(Fraction(top, bottom)))
        self.assertEqual([Share(-7, 2).floor(), Share(7, 2).floor(), Share(-4).floor()], [-4, 3, -4])

    def test_str(self):
        self.assertEqual(str(Share(3, 4)), "3/4")
        self.assertEqual(str(Share(-3, 2)), "-3/2")
        self.assertEqual(str(Share(3, -2)), "-3/2")
        self.assertEqual(str(Share(2)), "2")
        self.assertEqual(str(Share(-4, 2)), "-2")
        self.assertEqual(str(Share(0, -9)), "0")
        self.assertEqual(str(Share(LARGE, LARGE + 1)), f"{LARGE}/{LARGE + 1}")


if __name__ == "__main__":
    unittest.main()
