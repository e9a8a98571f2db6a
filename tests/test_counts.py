import math
import unittest
from fractions import Fraction

from dampfield.counts import chance, count
from dampfield.errors import FieldError, Impossible, NoCell, TooGreat
from dampfield.parts import layings, parts
from dampfield.views import View, closed, edge, far
from samples import (
    GREAT_AND_LYING, GREAT_AND_SMALL, SMALL_PART, THIRTEEN, THREE_PARTS, TWELVE, TWELVE_AND_SMALL,
    TWICE_TWELVE, few_closed_views, honest_views, plain_closed, plain_whole, sample_views, small_parts,
)

FAR_NUMBERS = [-10 ** 30, -37, -1, 37, 38, 1000, 10 ** 30]


class Count(unittest.TestCase):
    def counts(self, view):
        return [count(view, stones) for stones in range(len(closed(view)) + 1)]

    def test_ordinary(self):
        # One stone of three edge cells, any of two far cells.
        self.assertEqual(self.counts(View(["1##", "###"])), [0, 3, 6, 3, 0, 0])

    def test_layings_of_several_sizes(self):
        self.assertEqual(self.counts(View(["#1#1#"])), [0, 1, 1, 0])
        self.assertEqual(self.counts(View(["1#1", "###"])), [0, 2, 1, 0, 0])

    def test_several_parts_and_far_cells(self):
        view = View(THREE_PARTS)
        self.assertEqual(len(far(view)), 24)
        expected = [27 * math.comb(24, stones - 4) if stones >= 4 else 0 for stones in range(34)]
        self.assertEqual(self.counts(view), expected)

    def test_no_open_cell(self):
        self.assertEqual(self.counts(View(["##", "##"])), [1, 4, 6, 4, 1])
        self.assertEqual(self.counts(View(["#"])), [1, 1])

    def test_36_far_cells(self):
        view = View(["######"] * 6)
        self.assertEqual(self.counts(view), [math.comb(36, stones) for stones in range(37)])

    def test_no_closed_cell(self):
        for rows in [["0"], ["00", "00"], ["000000"] * 6]:
            self.assertEqual(count(View(rows), 0), 1)
            self.assertEqual(count(View(rows), 1), 0)
            self.assertEqual(count(View(rows), -1), 0)

    def test_any_whole_number(self):
        for rows in [["######"] * 6, THREE_PARTS, TWELVE, ["1##", "###"], ["0#"], ["0"], ["2#"], ["3"]]:
            for stones in FAR_NUMBERS:
                with self.subTest(rows=rows, stones=stones):
                    self.assertEqual(count(View(rows), stones), 0)

    def test_just_below_0_and_just_above_the_closed_cells(self):
        for rows in [["##"], ["1#"], ["#8#", "###"], ["###", "#8#", "###"], ["0#"]]:
            view = View(rows)
            self.assertEqual(count(view, -1), 0)
            self.assertEqual(count(view, len(closed(view)) + 1), 0)
        self.assertEqual(count(View(["###", "#8#", "###"]), 8), 1)

    def test_a_part_with_no_laying(self):
        for rows in [["2#"], ["0#1"], ["#1#0#1"], ["2##1"], ["4#####", "######"]]:
            with self.subTest(rows=rows):
                self.assertEqual(set(self.counts(View(rows))), {0})

    def test_a_lone_open_cell_that_tells_more_than_0(self):
        for rows in [["3"], ["11", "11"], ["501#"], ["100", "011", "01#"], ["10####"]]:
            with self.subTest(rows=rows):
                self.assertEqual(set(self.counts(View(rows))), {0})

    def test_a_lone_open_cell_that_tells_0(self):
        self.assertEqual(self.counts(View(["001#"])), [0, 1])
        self.assertEqual(self.counts(View(["000", "011", "01#"])), [0, 1])

    def test_parts_of_just_12_cells(self):
        self.assertEqual(sum(self.counts(View(TWELVE))), 64)
        self.assertEqual(sum(self.counts(View(TWELVE_AND_SMALL))), 64 * 3 * 2 ** (len(far(View(TWELVE_AND_SMALL)))))
        self.assertEqual(sum(self.counts(View(TWICE_TWELVE))), 64 * 64)

    def test_too_great(self):
        for rows in [THIRTEEN, GREAT_AND_SMALL, GREAT_AND_LYING]:
            for stones in [0, 5, 8] + FAR_NUMBERS:
                with self.subTest(rows=rows, stones=stones):
                    with self.assertRaises(TooGreat) as caught:
                        count(View(rows), stones)
                    self.assertIsInstance(caught.exception, FieldError)

    def test_too_great_though_there_is_no_laying(self):
        for rows in [["######", "88888#", "######"], ["######", "23333#", "######", "######", "######", "4#####"]]:
            with self.assertRaises(TooGreat):
                count(View(rows), 3)

    def test_too_great_where_the_great_part_stands_behind_a_small_one(self):
        rows = list(reversed(GREAT_AND_SMALL))
        self.assertEqual([len(part) for part in parts(View(rows))], [3, 13])
        with self.assertRaises(TooGreat):
            count(View(rows), 3)
        # The small part alone has no laying: that changes nothing.
        with self.assertRaises(TooGreat):
            count(View(["4#####"] + rows[1:]), 3)

    def test_a_whole_number_is_told(self):
        self.assertIs(type(count(View(["##"]), 1)), int)
        self.assertIs(type(count(View(["##"]), 9)), int)

    def test_against_going_through_all(self):
        for view in few_closed_views(150):
            sizes = [len(laying) for laying in plain_whole(view.rows)]
            for stones in range(-1, len(plain_closed(view.rows)) + 2):
                self.assertEqual(count(view, stones), sizes.count(stones), view.rows)

    def test_all_counts_come_to_the_product(self):
        views = list(sample_views(100)) + list(sample_views(60, signs="########12"))
        views += [view for view, stones in honest_views(60)]
        views += [View(rows) for rows in [THREE_PARTS, TWELVE_AND_SMALL, TWICE_TWELVE, ["######"] * 6]]
        tried = 0
        for view in views:
            if small_parts(view.rows) and not lies_alone(view):
                product = 2 ** len(far(view))
                for part in parts(view):
                    product *= len(layings(view, part[0]))
                self.assertEqual(sum(self.counts(view)), product, view.rows)
                tried += product > 1
        self.assertGreater(tried, 40)


def lies_alone(view):
    shut = closed(view)
    for r, row in enumerate(view.rows):
        for c, sign in enumerate(row):
            around = [cell for cell in shut if abs(cell[0] - r) <= 1 and abs(cell[1] - c) <= 1]
            if not around and sign != "0":
                return True
    return False


class Chance(unittest.TestCase):
    def test_ordinary(self):
        view = View(["1##", "###"])
        self.assertEqual(chance(view, 1, (0, 1)), (1, 3))
        self.assertEqual(chance(view, 1, (0, 2)), (0, 1))
        self.assertEqual(chance(view, 2, (1, 0)), (1, 3))
        self.assertEqual(chance(view, 2, (1, 2)), (1, 2))
        self.assertEqual(chance(view, 3, (1, 2)), (1, 1))

    def test_it_hangs_on_the_number_of_stones(self):
        view = View(["#1#1#"])
        self.assertEqual([chance(view, stones, (0, 2)) for stones in (1, 2)], [(1, 1), (0, 1)])
        self.assertEqual([chance(view, stones, (0, 0)) for stones in (1, 2)], [(0, 1), (1, 1)])
        view = View(["#1#1##"])
        self.assertEqual(chance(view, 2, (0, 2)), (1, 2))
        self.assertEqual(chance(view, 2, (0, 5)), (1, 2))

    def test_36_far_cells(self):
        view = View(["######"] * 6)
        for stones, expected in [(0, (0, 1)), (1, (1, 36)), (8, (2, 9)), (35, (35, 36)), (36, (1, 1))]:
            for cell in [(0, 0), (2, 3), (5, 5)]:
                self.assertEqual(chance(view, stones, cell), expected)

    def test_one_closed_cell(self):
        self.assertEqual(chance(View(["#"]), 0, (0, 0)), (0, 1))
        self.assertEqual(chance(View(["#"]), 1, (0, 0)), (1, 1))

    def test_several_parts_and_far_cells(self):
        view = View(THREE_PARTS)
        for cell in [(0, 1), (1, 0), (1, 1), (0, 4), (1, 5)]:
            self.assertEqual(chance(view, 10, cell), (1, 3))
        for cell in [(4, 0), (4, 1), (5, 1)]:
            self.assertEqual(chance(view, 10, cell), (2, 3))
        for cell in [(0, 2), (3, 3), (5, 5)]:
            self.assertEqual(chance(view, 10, cell), (1, 4))

    def test_parts_of_just_12_cells(self):
        for rows in [TWELVE, TWELVE_AND_SMALL, TWICE_TWELVE]:
            self.adds_up(View(rows), range(0, 20))

    def refused(self, error, rows, stones, cell):
        with self.subTest(rows=rows, stones=stones, cell=cell):
            with self.assertRaises(error) as caught:
                chance(View(rows), stones, cell)
            self.assertIsInstance(caught.exception, FieldError)

    def test_no_closed_cell(self):
        for cell in [(0, 0), (2, 0), (0, 3), (-1, 1), (-1, -1), (0, -1), (-2, -3), (99, 0), (0, 10 ** 20)]:
            self.refused(NoCell, ["1##", "###"], 1, cell)
        self.refused(NoCell, ["0"], 0, (0, 0))

    def test_no_closed_cell_goes_before_all(self):
        for cell in [(1, 0), (6, 0), (-1, 5), (0, 6)]:
            self.refused(NoCell, GREAT_AND_SMALL, 5, cell)
            self.refused(NoCell, GREAT_AND_SMALL, -5, cell)
            self.refused(NoCell, GREAT_AND_LYING, 5, cell)
        self.refused(NoCell, ["1##", "###"], 9, (0, 0))
        self.refused(NoCell, ["2#"], 1, (0, 0))
        self.refused(NoCell, ["2#"], 1, (0, -1))
        self.refused(NoCell, ["3"], 0, (0, 0))

    def test_too_great(self):
        for cell in edge(View(THIRTEEN)):
            self.refused(TooGreat, THIRTEEN, 6, cell)
        for cell in SMALL_PART + [(3, 0), (4, 4), (0, 0)]:
            self.refused(TooGreat, GREAT_AND_SMALL, 6, cell)

    def test_too_great_goes_before_impossible(self):
        self.refused(TooGreat, THIRTEEN, -1, (0, 0))
        self.refused(TooGreat, THIRTEEN, 99, (0, 0))
        self.refused(TooGreat, ["######", "88888#", "######"], 6, (0, 0))
        self.refused(TooGreat, GREAT_AND_LYING, 6, (0, 0))
        self.refused(TooGreat, GREAT_AND_SMALL[:5] + ["4#####"], 6, (4, 0))
        self.refused(TooGreat, ["4#####"] + list(reversed(GREAT_AND_SMALL[:5])), 6, (0, 1))

    def test_impossible_with_the_stones_told(self):
        for stones in [-1, 0, 4, 5, 6] + FAR_NUMBERS:
            self.refused(Impossible, ["1##", "###"], stones, (0, 1))
            self.refused(Impossible, ["1##", "###"], stones, (0, 2))
        for stones in FAR_NUMBERS:
            self.refused(Impossible, ["######"] * 6, stones, (3, 3))

    def test_impossible_with_any_stones(self):
        for stones in range(-1, 4):
            self.refused(Impossible, ["2#"], stones, (0, 1))
            self.refused(Impossible, ["2##1"], stones, (0, 2))
            self.refused(Impossible, ["2###"], stones, (0, 3))
            self.refused(Impossible, ["501#"], stones, (0, 3))
            self.refused(Impossible, ["10####"], stones, (0, 4))

    def adds_up(self, view, numbers):
        for stones in numbers:
            if count(view, stones) > 0:
                told = [chance(view, stones, cell) for cell in closed(view)]
                self.assertEqual(sum(Fraction(top, under) for top, under in told), stones, view.rows)
                for top, under in told:
                    self.lowest(top, under)

    def lowest(self, top, under):
        self.assertEqual((type(top), type(under)), (int, int))
        self.assertGreater(under, 0)
        self.assertTrue(0 <= top <= under)
        self.assertEqual(math.gcd(top, under), 1)

    def test_a_tuple_of_two_whole_numbers(self):
        told = chance(View(["##"]), 1, (0, 0))
        self.assertIs(type(told), tuple)
        self.assertEqual(told, (1, 2))

    def test_all_chances_come_to_the_number_of_stones(self):
        self.adds_up(View(["######"] * 6), [0, 1, 7, 18, 36])
        self.adds_up(View(THREE_PARTS), [0, 4, 5, 17, 28, 33])
        for view, stones in honest_views(60):
            if small_parts(view.rows):
                self.adds_up(view, [len(stones), len(stones) + 1])
        for view in few_closed_views(40):
            self.adds_up(view, range(10))

    def test_against_going_through_all(self):
        for view in few_closed_views(150):
            whole = plain_whole(view.rows)
            for stones in range(-1, len(plain_closed(view.rows)) + 2):
                fitting = [laying for laying in whole if len(laying) == stones]
                for cell in plain_closed(view.rows):
                    if not fitting:
                        self.refused(Impossible, view.rows, stones, cell)
                        continue
                    having = len([laying for laying in fitting if cell in laying])
                    expected = Fraction(having, len(fitting))
                    self.assertEqual(
                        chance(view, stones, cell), (expected.numerator, expected.denominator), view.rows
                    )


if __name__ == "__main__":
    unittest.main()
