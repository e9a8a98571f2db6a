import unittest

from dampfield.errors import FieldError, NoCell, TooGreat
from dampfield.parts import layings, parts
from dampfield.views import View, edge, far, keeps
from samples import (
    GREAT_AND_SMALL, SMALL_PART, THIRTEEN, THREE_PARTS, TWELVE, all_lists, honest_views,
    plain_layings, plain_parts, sample_views,
)


class Parts(unittest.TestCase):
    def test_one_part(self):
        self.assertEqual(parts(View(["1##", "###"])), [[(0, 1), (1, 0), (1, 1)]])

    def test_several_parts_by_their_least_cells(self):
        self.assertEqual(parts(View(THREE_PARTS)), [
            [(0, 1), (1, 0), (1, 1)],
            [(0, 4), (1, 4), (1, 5)],
            [(4, 0), (4, 1), (5, 1)],
        ])

    def test_cells_beside_one_another_may_be_of_two_parts(self):
        self.assertEqual(parts(View(["1##1"])), [[(0, 1)], [(0, 2)]])

    def test_cells_apart_may_be_of_one_part(self):
        self.assertEqual(parts(View(["#2#"])), [[(0, 0), (0, 2)]])

    def test_a_row_of_pairs_joins(self):
        self.assertEqual(parts(View(["#1#1#1"])), [[(0, 0), (0, 2), (0, 4)]])

    def test_open_cells_beside_one_another_do_not_join(self):
        self.assertEqual(parts(View(["#11#"])), [[(0, 0)], [(0, 3)]])

    def test_a_part_may_reach_before_another_and_behind_it(self):
        view = View(["##2###", "#####1", "1#####"])
        self.assertEqual(parts(view), plain_parts(view.rows))

    def test_no_open_and_no_closed_cell(self):
        self.assertEqual(parts(View(["##", "##"])), [])
        self.assertEqual(parts(View(["00", "00"])), [])
        self.assertEqual(parts(View(["#"])), [])
        self.assertEqual(parts(View(["5"])), [])

    def test_great_parts_are_told_too(self):
        self.assertEqual([len(part) for part in parts(View(TWELVE))], [12])
        self.assertEqual([len(part) for part in parts(View(THIRTEEN))], [13])
        self.assertEqual([len(part) for part in parts(View(GREAT_AND_SMALL))], [13, 3])
        checked = ["1#1#1#", "#1#1#1"] * 3
        self.assertEqual([len(part) for part in parts(View(checked))], [18])

    def test_against_the_plain_telling(self):
        for view in sample_views(300):
            self.assertEqual(parts(view), plain_parts(view.rows))
        for view in sample_views(100, signs="########1"):
            self.assertEqual(parts(view), plain_parts(view.rows))

    def test_each_edge_cell_is_of_just_one_part(self):
        for view in sample_views(200, signs="######12"):
            told = [cell for part in parts(view) for cell in part]
            self.assertEqual(sorted(told), edge(view))


class Layings(unittest.TestCase):
    def test_ordinary(self):
        view = View(["1##", "###"])
        for cell in [(0, 1), (1, 0), (1, 1)]:
            self.assertEqual(layings(view, cell), [[(0, 1)], [(1, 0)], [(1, 1)]])

    def test_in_order_as_lists(self):
        view = View(["1#1", "###"])
        self.assertEqual(layings(view, (0, 1)), [
            [(0, 1)],
            [(1, 0), (1, 2)],
            [(1, 1)],
        ])

    def test_a_shorter_list_may_stand_behind_a_longer_one(self):
        view = View(["#1#1#"])
        self.assertEqual(layings(view, (0, 4)), [[(0, 0), (0, 4)], [(0, 2)]])

    def test_the_part_of_the_cell_alone(self):
        view = View(THREE_PARTS)
        self.assertEqual(layings(view, (1, 4)), [[(0, 4)], [(1, 4)], [(1, 5)]])
        self.assertEqual(layings(view, (5, 1)), [
            [(4, 0), (4, 1)], [(4, 0), (5, 1)], [(4, 1), (5, 1)],
        ])

    def test_no_stone_at_all(self):
        self.assertEqual(layings(View(["0#"]), (0, 1)), [[]])

    def test_all_stones(self):
        view = View(["###", "#8#", "###"])
        self.assertEqual(layings(view, (2, 2)), [edge(view)])

    def test_a_part_with_no_laying(self):
        self.assertEqual(layings(View(["2#"]), (0, 1)), [])
        self.assertEqual(layings(View(["0#1"]), (0, 1)), [])
        self.assertEqual(layings(View(["#1#0#"]), (0, 2)), [[(0, 0)]])
        self.assertEqual(layings(View(["#1#0#1"]), (0, 0)), [])

    def test_another_part_with_no_laying_is_all_one(self):
        view = View(["2##1"])
        self.assertEqual(layings(view, (0, 1)), [])
        self.assertEqual(layings(view, (0, 2)), [[(0, 2)]])

    def test_an_open_cell_with_no_closed_cell_near_is_all_one(self):
        self.assertEqual(layings(View(["501#"]), (0, 3)), [[(0, 3)]])

    def test_just_12_cells(self):
        view = View(TWELVE)
        told = layings(view, (0, 0))
        self.assertEqual(told, plain_layings(view.rows, edge(view)))
        self.assertEqual(len(told), 64)

    def test_just_13_cells(self):
        for cell in edge(View(THIRTEEN)):
            with self.assertRaises(TooGreat) as caught:
                layings(View(THIRTEEN), cell)
            self.assertIsInstance(caught.exception, FieldError)

    def test_13_cells_with_no_laying_are_too_great_too(self):
        with self.assertRaises(TooGreat):
            layings(View(["######", "88888#", "######"]), (0, 0))

    def test_a_small_part_beside_a_great_one(self):
        view = View(GREAT_AND_SMALL)
        for cell in SMALL_PART:
            self.assertEqual(layings(view, cell), [[each] for each in SMALL_PART])
        with self.assertRaises(TooGreat):
            layings(view, (1, 5))

    def refused(self, view, cell):
        with self.subTest(rows=view.rows, cell=cell):
            with self.assertRaises(NoCell) as caught:
                layings(view, cell)
            self.assertIsInstance(caught.exception, FieldError)

    def test_no_edge_cell(self):
        view = View(["1###", "####"])
        for cell in [(0, 0), (0, 2), (1, 3), (2, 0), (0, 4), (-1, 1), (-2, 1), (1, -4), (0, -3), (50, 50)]:
            self.refused(view, cell)
        self.refused(View(["##"]), (0, 0))
        self.refused(View(["0"]), (0, 0))

    def test_no_edge_cell_goes_before_too_great(self):
        for cell in [(1, 0), (3, 0), (6, 0), (0, 6), (-1, 0), (-6, 0), (5, 0)]:
            self.refused(View(GREAT_AND_SMALL), cell)

    def same_as_plain(self, view):
        for part in plain_parts(view.rows):
            if len(part) > 12:
                for cell in part:
                    with self.assertRaises(TooGreat):
                        layings(view, cell)
            else:
                expected = plain_layings(view.rows, part)
                for cell in part:
                    self.assertEqual(layings(view, cell), expected)

    def test_against_the_plain_telling(self):
        for view in sample_views(120):
            self.same_as_plain(view)
        for view in sample_views(60, signs="########12"):
            self.same_as_plain(view)
        for view, stones in honest_views(60):
            self.same_as_plain(view)

    def test_the_truth_is_among_them(self):
        for view, stones in honest_views(200):
            for part in parts(view):
                if len(part) <= 12:
                    self.assertIn([cell for cell in stones if cell in part], layings(view, part[0]))

    def test_what_keeps_the_view_is_a_laying_of_each_part(self):
        for view in sample_views(60, most=3):
            told = [(part, layings(view, part[0])) for part in parts(view)]
            lonely = [plain for plain in lonely_figures(view) if plain != "0"]
            for laying in all_lists(sorted(edge(view) + far(view))):
                whole = all([cell for cell in laying if cell in part] in known for part, known in told)
                self.assertIs(keeps(view, laying), whole and not lonely)


def lonely_figures(view):
    found = []
    for r, row in enumerate(view.rows):
        for c, sign in enumerate(row):
            around = [line[max(c - 1, 0):c + 2] for line in view.rows[max(r - 1, 0):r + 2]]
            if "#" not in "".join(around):
                found.append(sign)
    return found


if __name__ == "__main__":
    unittest.main()
