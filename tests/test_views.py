import itertools
import unittest

from dampfield.errors import BadLaying, BadView, FieldError, NoCell
from dampfield.views import View, closed, edge, far, keeps, near
from samples import (
    all_lists, honest_views, plain_closed, plain_edge, plain_keeps, plain_near, sample_views,
)


class Making(unittest.TestCase):
    def test_fields(self):
        view = View(["1##", "#20"])
        self.assertEqual(view.rows, ["1##", "#20"])
        self.assertIs(type(view.rows), list)
        self.assertEqual(view.height, 2)
        self.assertEqual(view.width, 3)

    def test_every_size_from_1_to_6(self):
        for height, width in itertools.product(range(1, 7), range(1, 7)):
            view = View(["#" * width] * height)
            self.assertEqual((view.height, view.width), (height, width))
            self.assertEqual(view.rows, ["#" * width] * height)

    def test_every_sign(self):
        for sign in "#012345678":
            self.assertEqual(View([sign]).rows, [sign])

    def test_a_figure_that_cannot_be_is_still_a_view(self):
        self.assertEqual(View(["88", "88"]).rows, ["88", "88"])

    def refused(self, rows):
        with self.subTest(rows=rows):
            with self.assertRaises(BadView) as caught:
                View(rows)
            self.assertIsInstance(caught.exception, FieldError)
            self.assertIsInstance(caught.exception, ValueError)

    def test_no_rows(self):
        self.refused([])

    def test_seven_rows(self):
        self.refused(["#"] * 7)
        self.refused(["######"] * 7)

    def test_an_empty_row(self):
        self.refused([""])
        self.refused(["", ""])
        self.refused(["#", ""])
        self.refused(["", "#"])

    def test_seven_cells(self):
        self.refused(["#######"])
        self.refused(["#######"] * 6)

    def test_rows_not_all_as_long(self):
        self.refused(["##", "#"])
        self.refused(["#", "##"])
        self.refused(["##", "##", "###"])

    def test_another_sign(self):
        for sign in ["9", " ", ".", "*", "x", "-", "\n", "\t", "\u0661", "\uff11", "\u00b2", "\U0001d7d8"]:
            self.refused([sign])
            self.refused(["##", "#" + sign])
            self.refused([sign + "#", "##"])

    def test_a_row_of_several_signs_is_judged_sign_by_sign(self):
        self.assertEqual(View(["10", "#3"]).rows, ["10", "#3"])
        self.refused(["-1"])
        self.refused(["1\n"])


class Near(unittest.TestCase):
    def test_within(self):
        view = View(["###", "###", "###"])
        self.assertEqual(
            near(view, (1, 1)),
            [(0, 0), (0, 1), (0, 2), (1, 0), (1, 2), (2, 0), (2, 1), (2, 2)],
        )

    def test_corners_and_sides(self):
        view = View(["####", "####", "####"])
        self.assertEqual(near(view, (0, 0)), [(0, 1), (1, 0), (1, 1)])
        self.assertEqual(near(view, (2, 3)), [(1, 2), (1, 3), (2, 2)])
        self.assertEqual(near(view, (0, 2)), [(0, 1), (0, 3), (1, 1), (1, 2), (1, 3)])

    def test_open_cells_are_near_too(self):
        view = View(["1#", "0#"])
        self.assertEqual(near(view, (0, 0)), [(0, 1), (1, 0), (1, 1)])

    def test_one_cell(self):
        self.assertEqual(near(View(["#"]), (0, 0)), [])

    def test_one_row_and_one_column(self):
        self.assertEqual(near(View(["######"]), (0, 5)), [(0, 4)])
        self.assertEqual(near(View(["#"] * 6), (3, 0)), [(2, 0), (4, 0)])

    def test_every_cell_of_every_size(self):
        for height, width in itertools.product(range(1, 7), range(1, 7)):
            view = View(["#" * width] * height)
            for cell in itertools.product(range(height), range(width)):
                self.assertEqual(near(view, cell), plain_near(view.rows, cell))

    def test_a_cell_off_the_field(self):
        view = View(["###", "###"])
        for cell in [(-1, 0), (0, -1), (-1, -1), (-2, -3), (2, 0), (0, 3), (2, 3), (1, 99), (-99, 1)]:
            with self.subTest(cell=cell):
                with self.assertRaises(NoCell) as caught:
                    near(view, cell)
                self.assertIsInstance(caught.exception, FieldError)


class Kinds(unittest.TestCase):
    def test_edge_and_far(self):
        view = View(["1###", "####"])
        self.assertEqual(closed(view), [(0, 1), (0, 2), (0, 3), (1, 0), (1, 1), (1, 2), (1, 3)])
        self.assertEqual(edge(view), [(0, 1), (1, 0), (1, 1)])
        self.assertEqual(far(view), [(0, 2), (0, 3), (1, 2), (1, 3)])

    def test_no_open_cell(self):
        view = View(["##", "##"])
        self.assertEqual(closed(view), [(0, 0), (0, 1), (1, 0), (1, 1)])
        self.assertEqual(edge(view), [])
        self.assertEqual(far(view), [(0, 0), (0, 1), (1, 0), (1, 1)])

    def test_36_far_cells(self):
        self.assertEqual(len(far(View(["######"] * 6))), 36)

    def test_no_closed_cell(self):
        view = View(["01", "10"])
        self.assertEqual([closed(view), edge(view), far(view)], [[], [], []])

    def test_against_the_plain_telling(self):
        for view in sample_views(300):
            shut = plain_closed(view.rows)
            rim = plain_edge(view.rows)
            self.assertEqual(closed(view), shut)
            self.assertEqual(edge(view), rim)
            self.assertEqual(far(view), [cell for cell in shut if cell not in rim])


class Keeping(unittest.TestCase):
    def test_kept_and_not_kept(self):
        view = View(["1##", "###"])
        self.assertIs(keeps(view, [(0, 1)]), True)
        self.assertIs(keeps(view, [(0, 1), (0, 2), (1, 2)]), True)
        self.assertIs(keeps(view, []), False)
        self.assertIs(keeps(view, [(0, 2)]), False)
        self.assertIs(keeps(view, [(0, 1), (1, 1)]), False)

    def test_every_open_cell_counts(self):
        view = View(["1#1", "###"])
        self.assertIs(keeps(view, [(0, 1)]), True)
        self.assertIs(keeps(view, [(1, 0)]), False)
        self.assertIs(keeps(view, [(1, 0), (1, 2)]), True)

    def test_eight_stones(self):
        view = View(["###", "#8#", "###"])
        self.assertIs(keeps(view, closed(view)), True)
        self.assertIs(keeps(view, closed(view)[1:]), False)

    def test_no_open_cell_is_kept_by_all(self):
        view = View(["##"])
        for laying in [[], [(0, 0)], [(0, 1)], [(0, 0), (0, 1)]]:
            self.assertIs(keeps(view, laying), True)

    def test_no_closed_cell(self):
        self.assertIs(keeps(View(["00", "00"]), []), True)
        self.assertIs(keeps(View(["00", "01"]), []), False)

    def test_an_open_cell_with_no_closed_cell_near(self):
        self.assertIs(keeps(View(["0"]), []), True)
        self.assertIs(keeps(View(["3"]), []), False)
        self.assertIs(keeps(View(["001#"]), [(0, 3)]), True)
        self.assertIs(keeps(View(["101#"]), [(0, 3)]), False)

    def test_no_laying(self):
        view = View(["1###", "####"])
        wrong = [
            [(0, 1), (0, 1)],
            [(0, 2), (0, 1)],
            [(1, 0), (0, 1)],
            [(0, 1), (0, 3), (0, 2)],
            [(0, 0)],
            [(0, 0), (0, 1)],
            [(0, 4)],
            [(2, 0)],
            [(0, -1)],
            [(-1, 1)],
            [(-1, -1), (0, 1)],
            [(0, 1), (9, 9)],
        ]
        for laying in wrong:
            with self.subTest(laying=laying):
                with self.assertRaises(BadLaying) as caught:
                    keeps(view, laying)
                self.assertIsInstance(caught.exception, FieldError)

    def test_no_laying_where_nothing_is_closed(self):
        with self.assertRaises(BadLaying):
            keeps(View(["0"]), [(0, 0)])

    def test_against_the_plain_telling(self):
        for view in sample_views(150, most=3):
            for laying in all_lists(plain_closed(view.rows)):
                self.assertIs(keeps(view, laying), plain_keeps(view.rows, laying))

    def test_the_truth_is_kept(self):
        for view, stones in honest_views(200):
            self.assertIs(keeps(view, stones), True)


if __name__ == "__main__":
    unittest.main()
