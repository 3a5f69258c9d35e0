"""Points 2 to 4: whole numbers, truths and parts."""

import copy
import unittest
from fractions import Fraction

from lagwedge import parts
from lagwedge.errors import BadPart, LagError, NoShare
from tests.samples import MANY, NOT_PARTS, NOT_WHOLE, pair

SOME = [Fraction(top, bottom) for top in range(-7, 8) for bottom in range(1, 7)]
LONG = [Fraction(10 ** 399 + 7, 3 ** 700), Fraction(-(7 ** 400), 10 ** 399 + 3), Fraction(3 ** 700, 2)]


class Refusing(unittest.TestCase):

    def refuses(self, call, *given, **named):
        with self.assertRaises(BadPart) as caught:
            call(*given, **named)
        self.assertEqual(vars(caught.exception), {"word": "BadPart"})
        self.assertIsInstance(caught.exception, LagError)


class MakingParts(Refusing):

    def test_the_two_constants(self):
        self.assertEqual(parts.NOUGHT, (0, 1))
        self.assertEqual(parts.ONE, (1, 1))

    def test_lowest_terms_and_sign(self):
        for top in range(-30, 31):
            for bottom in [*range(-30, 0), *range(1, 31)]:
                self.assertEqual(parts.part(top, bottom), pair(Fraction(top, bottom)))

    def test_ordinary(self):
        self.assertEqual(parts.part(6, 4), (3, 2))
        self.assertEqual(parts.part(6, -4), (-3, 2))
        self.assertEqual(parts.part(-6, -4), (3, 2))
        self.assertEqual(parts.part(0, -5), (0, 1))
        self.assertEqual(parts.part(8, 4), (2, 1))

    def test_bottom_is_one_where_none_is_told(self):
        self.assertEqual(parts.part(5), (5, 1))
        self.assertEqual(parts.part(-5), (-5, 1))
        self.assertEqual(parts.part(0), (0, 1))

    def test_by_name(self):
        self.assertEqual(parts.part(bottom=4, top=2), (1, 2))

    def test_many_figures(self):
        self.assertEqual(parts.part(6 * MANY, 4 * MANY), (3, 2))
        self.assertEqual(parts.part(MANY + 1, MANY), (MANY + 1, MANY))

    def test_shared_factors_of_long_numbers(self):
        # About the lengths at which numbers begin to be shortened by their heads, and far beyond.
        lengths = (200, 500, 520, 1020, 1024, 1026, 1100, 1600, 2100, 5000)
        numbers = [3 ** length // 2 ** (length // 2) + length for length in lengths]
        numbers += [2 ** length + turn for length in lengths for turn in (-1, 0, 1)]
        for shared in (1, 6, 2 ** 1023 - 1, 7 ** 900):
            for one in numbers:
                for other in numbers[::3]:
                    made = parts.part(one * shared, other * shared)
                    self.assertEqual(made, pair(Fraction(one, other)))
                    self.assertTrue(parts.is_part(made))

    def test_numbers_whose_factor_is_found_in_the_most_steps(self):
        ahead, behind = 0, 1
        for length in range(6000):
            ahead, behind = behind, ahead + behind
            if length % 250 == 249:
                self.assertEqual(parts.part(ahead, behind), (ahead, behind))
                self.assertEqual(parts.part(behind * ahead, ahead * ahead), (behind, ahead))
                self.assertEqual(parts.part(behind + ahead * 2 ** 700, ahead)[1], ahead)

    def test_tuple_of_whole_numbers(self):
        made = parts.part(4, -6)
        self.assertEqual([type(thing) for thing in (made, *made)], [tuple, int, int])

    def test_no_whole_number(self):
        for thing in NOT_WHOLE:
            with self.subTest(thing):
                self.refuses(parts.part, thing)
                self.refuses(parts.part, thing, 2)
                self.refuses(parts.part, 2, thing)
                self.refuses(parts.part, thing, 0)

    def test_bottom_of_nought(self):
        for top in (0, 1, -1, MANY):
            self.refuses(parts.part, top, 0)


class AskingForParts(unittest.TestCase):

    def test_parts(self):
        for fraction in SOME + LONG:
            self.assertIs(parts.is_part(pair(fraction)), True)
        self.assertIs(parts.is_part((MANY, MANY + 1)), True)

    def test_nought_and_one(self):
        self.assertIs(parts.is_part((0, 1)), True)
        self.assertIs(parts.is_part((1, 1)), True)
        self.assertIs(parts.is_part((-1, 1)), True)

    def test_no_parts(self):
        for at, thing in enumerate(NOT_PARTS):
            with self.subTest(at=at):
                self.assertIs(parts.is_part(thing), False)

    def test_every_small_pair(self):
        for top in range(-8, 9):
            for bottom in range(-8, 9):
                lowest = bottom > 0 and pair(Fraction(top, bottom)) == (top, bottom)
                self.assertIs(parts.is_part((top, bottom)), lowest)


class Reckoning(unittest.TestCase):

    def test_four_ways(self):
        for one in SOME[::2] + LONG:
            for other in SOME[::3] + LONG:
                self.assertEqual(parts.plus(pair(one), pair(other)), pair(one + other))
                self.assertEqual(parts.minus(pair(one), pair(other)), pair(one - other))
                self.assertEqual(parts.times(pair(one), pair(other)), pair(one * other))
                if other:
                    self.assertEqual(parts.over(pair(one), pair(other)), pair(one / other))

    def test_nought_told(self):
        self.assertEqual(parts.plus((1, 2), (-1, 2)), (0, 1))
        self.assertEqual(parts.minus((5, 7), (5, 7)), (0, 1))
        self.assertEqual(parts.times((-5, 7), (0, 1)), (0, 1))
        self.assertEqual(parts.over((0, 1), (-5, 7)), (0, 1))

    def test_over_what_is_below_nought(self):
        self.assertEqual(parts.over((1, 2), (-3, 4)), (-2, 3))

    def test_to_share_by_nought(self):
        for one in ((0, 1), (1, 2), (-3, 1)):
            with self.assertRaises(NoShare) as caught:
                parts.over(one, (0, 1))
            self.assertEqual(vars(caught.exception), {"word": "NoShare"})
            self.assertIsInstance(caught.exception, ZeroDivisionError)
            self.assertNotIsInstance(caught.exception, LagError)

    def test_by_name(self):
        self.assertEqual(parts.plus(other=(1, 3), one=(1, 2)), (5, 6))
        self.assertEqual(parts.minus(other=(1, 3), one=(1, 2)), (1, 6))
        self.assertEqual(parts.times(other=(1, 3), one=(1, 2)), (1, 6))
        self.assertEqual(parts.over(other=(1, 3), one=(1, 2)), (3, 2))
        self.assertEqual(parts.order(other=(1, 3), one=(1, 2)), 1)

    def test_order(self):
        for one in SOME + LONG:
            for other in SOME + LONG:
                told = parts.order(pair(one), pair(other))
                self.assertEqual(told, (one > other) - (one < other))
                self.assertIs(type(told), int)


class Totals(unittest.TestCase):

    def test_adds_all(self):
        self.assertEqual(parts.total([(1, 2), (1, 3), (-1, 6)]), (2, 3))
        self.assertEqual(parts.total([pair(one) for one in SOME + LONG]), pair(sum(SOME + LONG)))

    def test_start(self):
        self.assertEqual(parts.total([(1, 2), (1, 2)], start=(-1, 1)), (0, 1))
        self.assertEqual(parts.total([(1, 2)], start=(1, 3)), (5, 6))

    def test_nothing_to_add(self):
        self.assertEqual(parts.total([]), (0, 1))
        self.assertEqual(parts.total([], start=(7, 3)), (7, 3))

    def test_start_by_name_alone(self):
        with self.assertRaises(TypeError):
            parts.total([(1, 2)], (1, 3))

    def test_what_is_handed_in_stays(self):
        handed = [(1, 2), (1, 3)]
        kept = copy.deepcopy(handed)
        parts.total(handed, start=(5, 1))
        self.assertEqual(handed, kept)


def written_by(number, base):
    """Figures the slow way, from the highest down."""
    place = 1
    while place * base <= number:
        place *= base
    signs = ""
    while place:
        signs += "0123456789abcdef"[number // place]
        number, place = number % place, place // base
    return signs


def written(fraction, base):
    sign = "-" if fraction < 0 else ""
    text = sign + written_by(abs(fraction.numerator), base)
    return text if fraction.denominator == 1 else text + "/" + written_by(fraction.denominator, base)


class Writing(Refusing):

    def test_ordinary(self):
        self.assertEqual(parts.shown_part((5, 1)), "5")
        self.assertEqual(parts.shown_part((1, 2)), "1/2")
        self.assertEqual(parts.shown_part((-10, 3)), "-10/3")
        self.assertEqual(parts.shown_part((-10, 1)), "-10")
        self.assertEqual(parts.shown_part((0, 1)), "0")

    def test_bases(self):
        self.assertEqual(parts.shown_part((-10, 3), base=2), "-1010/11")
        self.assertEqual(parts.shown_part((-1, 171), base=16), "-1/ab")
        self.assertEqual(parts.shown_part((255, 16), base=16), "ff/10")
        self.assertEqual(parts.shown_part((0, 1), base=2), "0")
        self.assertEqual(parts.shown_part((1, 2), base=2), "1/10")

    def test_every_base(self):
        for base in range(2, 17):
            for fraction in [*SOME, *LONG, Fraction(1, base), Fraction(base), Fraction(base - 1), Fraction(-base ** 3)]:
                self.assertEqual(parts.shown_part(pair(fraction), base=base), written(fraction, base))

    def test_1500_figures(self):
        top, bottom = 10 ** 1500 - 1, 10 ** 1499
        self.assertEqual(parts.shown_part((-top, bottom)), "-" + "9" * 1500 + "/1" + "0" * 1499)
        binary = format(top, "b") + "/" + format(bottom, "b")
        self.assertEqual(parts.shown_part((top, bottom), base=2), binary)

    def test_wrong_base(self):
        for base in [1, 0, -2, 17, 36, MANY, *NOT_WHOLE]:
            self.refuses(parts.shown_part, (1, 2), base=base)

    def test_base_by_name_alone(self):
        with self.assertRaises(TypeError):
            parts.shown_part((1, 2), 10)


class Reading(Refusing):

    def test_ordinary(self):
        self.assertEqual(parts.read_part("5"), (5, 1))
        self.assertEqual(parts.read_part("-1/2"), (-1, 2))
        self.assertEqual(parts.read_part("0"), (0, 1))
        self.assertEqual(parts.read_part("1010/11", base=2), (10, 3))
        self.assertEqual(parts.read_part("-1/ab", base=16), (-1, 171))

    def test_every_base(self):
        for base in range(2, 17):
            for fraction in [*SOME, Fraction(10 ** 49 + 1, 7), Fraction(-1, base), Fraction(base)]:
                self.assertEqual(parts.read_part(written(fraction, base), base=base), pair(fraction))

    def test_texts_that_no_part_is_written_as(self):
        for text in [
            "", "-", "/", "-/", "--1", "+1", "-0", "00", "01", "-01", "0/1", "0/2", "-0/2", "5/1", "-5/1", "2/4", "6/3",
            "1/0", "0/0", "1/", "/2", "-/2", "1/-2", "-1/-2", "1/02", "1/+2", "1//2", "1/2/3", "1/2/", " 1", "1 ", "1 /2",
            "1\n", "1.5", "1e3", "1_000", "0x1", "a", "1/a", "x", "\u0663", "1/\u00b2", "\uff11", "1,5", "1-", "1/2-",
        ]:
            with self.subTest(text):
                self.refuses(parts.read_part, text)

    def test_figures_beyond_the_base(self):
        self.refuses(parts.read_part, "2", base=2)
        self.refuses(parts.read_part, "1/2", base=2)
        self.refuses(parts.read_part, "f", base=15)
        self.refuses(parts.read_part, "g", base=16)
        self.refuses(parts.read_part, "A", base=16)
        self.refuses(parts.read_part, "1/F", base=16)
        self.refuses(parts.read_part, "0b1", base=2)
        self.assertEqual(parts.read_part("e", base=15), (14, 1))

    def test_every_text_of_three_signs(self):
        told = {written(Fraction(top, bottom), 3): (top, bottom)
                for top in range(-26, 27) for bottom in range(1, 9) if pair(Fraction(top, bottom)) == (top, bottom)}
        signs = ["", *"-/0123a "]
        for text in sorted({one + two + three for one in signs for two in signs for three in signs}):
            if text in told:
                self.assertEqual(parts.read_part(text, base=3), told[text])
            else:
                self.refuses(parts.read_part, text, base=3)

    def test_two_hundred_signs(self):
        self.assertEqual(parts.read_part("9" * 200), (10 ** 200 - 1, 1))
        self.assertEqual(parts.read_part("-" + "9" * 199), (1 - 10 ** 199, 1))
        self.assertEqual(parts.read_part("1/1" + "0" * 197), (1, 10 ** 197))
        self.assertEqual(parts.read_part("1" + "0" * 199, base=2), (2 ** 199, 1))

    def test_more_signs(self):
        for text in ("9" * 201, "-" + "9" * 200, "1/1" + "0" * 198, "1" * 100000):
            self.refuses(parts.read_part, text)
        self.refuses(parts.read_part, "1" + "0" * 200, base=2)
        self.refuses(parts.read_part, "f" * 201, base=16)

    def test_no_text(self):
        for thing in [None, 1, True, (1, 2), ["1"], b"1"]:
            self.refuses(parts.read_part, thing)

    def test_wrong_base(self):
        for base in [1, 0, -2, 17, 36, MANY, *NOT_WHOLE]:
            self.refuses(parts.read_part, "1", base=base)

    def test_base_by_name_alone(self):
        with self.assertRaises(TypeError):
            parts.read_part("1", 10)
