import unittest

from dampfield.errors import FieldError, Impossible, NoCell, NotOpen, TooGreat
from dampfield.sure import shown, sure
from dampfield.views import View, closed, edge, keeps
from samples import (
    GREAT_AND_LYING, GREAT_AND_SMALL, SMALL_PART, THIRTEEN, THREE_PARTS, TWELVE, TWELVE_AND_SMALL,
    TWICE_TWELVE, few_closed_views, honest_views, plain_closed, plain_keeps, plain_whole, small_parts,
)


class Sure(unittest.TestCase):
    def told(self, rows):
        return [sure(View(rows), cell) for cell in closed(View(rows))]

    def test_stone(self):
        self.assertEqual(self.told(["1#"]), ["stone"])
        self.assertEqual(self.told(["###", "#8#", "###"]), ["stone"] * 8)

    def test_none(self):
        self.assertEqual(self.told(["0#"]), ["none"])
        self.assertEqual(self.told(["###", "#0#", "###"]), ["none"] * 8)

    def test_open(self):
        self.assertEqual(self.told(["1##", "###"]), ["open"] * 5)
        self.assertEqual(self.told(["#1#"]), ["open", "open"])

    def test_all_three_in_one_view(self):
        self.assertEqual(self.told(["#1#0##"]), ["stone", "none", "none", "open"])

    def test_by_two_open_cells_together(self):
        self.assertEqual(self.told(["###", "12#", "01#"]), ["open", "open", "none", "open", "open"])
        self.assertEqual(self.told(["####", "1211"]), ["stone", "none", "stone", "none"])

    def test_no_open_cell(self):
        self.assertEqual(self.told(["##", "##"]), ["open"] * 4)
        self.assertEqual(self.told(["######"] * 6), ["open"] * 36)

    def test_several_parts(self):
        self.assertEqual(set(self.told(THREE_PARTS)), {"open"})
        rows = ["3####0", "######", "######", "######", "######", "2#####"]
        view = View(rows)
        for cell in [(0, 1), (1, 0), (1, 1)]:
            self.assertEqual(sure(view, cell), "stone")
        for cell in [(0, 4), (1, 4), (1, 5)]:
            self.assertEqual(sure(view, cell), "none")
        for cell in [(4, 0), (4, 1), (5, 1), (3, 3), (0, 2)]:
            self.assertEqual(sure(view, cell), "open")

    def test_parts_of_just_12_cells(self):
        for rows in [TWELVE, TWELVE_AND_SMALL, TWICE_TWELVE]:
            self.assertEqual(len(self.told(rows)), len(closed(View(rows))))
        row = ["stone", "open", "stone", "stone", "open", "stone"]
        self.assertEqual(self.told(["######", "355553", "######"]), row + row)
        self.assertEqual(self.told(["######", "466664", "######"]), ["stone"] * 12)

    def test_against_going_through_all(self):
        seen = set()
        for view in few_closed_views(250):
            whole = plain_whole(view.rows)
            for cell in plain_closed(view.rows):
                having = len([laying for laying in whole if cell in laying])
                if not whole:
                    with self.assertRaises(Impossible):
                        sure(view, cell)
                    continue
                expected = "open"
                if having == len(whole):
                    expected = "stone"
                if having == 0:
                    expected = "none"
                self.assertEqual(sure(view, cell), expected, view.rows)
                seen.add(expected)
        self.assertEqual(seen, {"stone", "none", "open"})

    def test_what_is_sure_is_true(self):
        for view, stones in honest_views(150):
            if small_parts(view.rows):
                for cell in closed(view):
                    self.assertIn(sure(view, cell), ("stone" if cell in stones else "none", "open"))


class Shown(unittest.TestCase):
    def shows(self, view, cell):
        told = shown(view, cell)
        self.assertIs(type(told), tuple)
        self.assertEqual(len(told), 2)
        without, having = told
        self.assertEqual((type(without), type(having)), (list, list))
        self.assertIs(keeps(view, without), True)
        self.assertIs(keeps(view, having), True)
        self.assertTrue(plain_keeps(view.rows, without))
        self.assertTrue(plain_keeps(view.rows, having))
        self.assertNotIn(cell, without)
        self.assertIn(cell, having)

    def test_ordinary(self):
        self.assertEqual(shown(View(["#1#"]), (0, 0)), ([(0, 2)], [(0, 0)]))
        self.assertEqual(shown(View(["#1#"]), (0, 2)), ([(0, 0)], [(0, 2)]))
        self.assertEqual(shown(View(["#"]), (0, 0)), ([], [(0, 0)]))

    def test_edge_and_far_cells(self):
        for rows in [["1##", "###"], THREE_PARTS, ["##", "##"], ["######"] * 6, TWELVE, TWELVE_AND_SMALL, TWICE_TWELVE]:
            for cell in closed(View(rows)):
                with self.subTest(rows=rows, cell=cell):
                    self.shows(View(rows), cell)

    def test_a_part_that_reaches_before_another_and_behind_it(self):
        view = View(["##2###", "#####1", "1#####"])
        for cell in closed(view):
            self.shows(view, cell)

    def test_all_that_is_open_and_nothing_else(self):
        views = list(few_closed_views(80))
        views += [view for view, stones in honest_views(100) if small_parts(view.rows)]
        for view in views:
            for cell in closed(view):
                try:
                    told = sure(view, cell)
                except Impossible:
                    continue
                if told == "open":
                    self.shows(view, cell)
                else:
                    with self.assertRaises(NotOpen) as caught:
                        shown(view, cell)
                    self.assertIsInstance(caught.exception, FieldError)

    def test_not_open(self):
        for rows, cell in [(["1#"], (0, 1)), (["0#"], (0, 1)), (["#1#0##"], (0, 0)), (["#1#0##"], (0, 2))]:
            with self.subTest(rows=rows, cell=cell):
                with self.assertRaises(NotOpen) as caught:
                    shown(View(rows), cell)
                self.assertIsInstance(caught.exception, FieldError)


class Refused(unittest.TestCase):
    def refused(self, error, rows, cell):
        for ask in [sure, shown]:
            with self.subTest(rows=rows, cell=cell, ask=ask.__name__):
                with self.assertRaises(error) as caught:
                    ask(View(rows), cell)
                self.assertIsInstance(caught.exception, FieldError)

    def test_no_closed_cell(self):
        for cell in [(0, 0), (2, 0), (0, 3), (-1, 1), (-1, -1), (0, -1), (-2, -3), (99, 0), (0, 10 ** 20)]:
            self.refused(NoCell, ["1##", "###"], cell)
        self.refused(NoCell, ["0"], (0, 0))

    def test_no_closed_cell_goes_before_all(self):
        for cell in [(1, 0), (6, 0), (-1, 5), (0, 6)]:
            self.refused(NoCell, GREAT_AND_SMALL, cell)
            self.refused(NoCell, GREAT_AND_LYING, cell)
        self.refused(NoCell, ["2#"], (0, 0))
        self.refused(NoCell, ["2#"], (0, -1))
        self.refused(NoCell, ["3"], (0, 0))

    def test_too_great(self):
        for cell in edge(View(THIRTEEN)):
            self.refused(TooGreat, THIRTEEN, cell)
        for cell in SMALL_PART + [(3, 0), (4, 4), (0, 0)]:
            self.refused(TooGreat, GREAT_AND_SMALL, cell)

    def test_too_great_goes_before_impossible(self):
        self.refused(TooGreat, ["######", "88888#", "######"], (0, 0))
        self.refused(TooGreat, GREAT_AND_LYING, (0, 0))
        for cell in [(0, 0), (4, 0), (3, 3)]:
            self.refused(TooGreat, GREAT_AND_SMALL[:5] + ["4#####"], cell)
        for cell in [(0, 1), (5, 5), (2, 5)]:
            self.refused(TooGreat, ["4#####"] + list(reversed(GREAT_AND_SMALL[:5])), cell)

    def test_too_great_goes_before_not_open(self):
        self.refused(TooGreat, GREAT_AND_SMALL[:5] + ["3#####"], (4, 0))
        self.refused(TooGreat, GREAT_AND_SMALL[:5] + ["0#####"], (4, 0))

    def test_impossible_by_the_part_of_the_cell(self):
        self.refused(Impossible, ["2#"], (0, 1))
        self.refused(Impossible, ["0#1"], (0, 1))

    def test_impossible_by_another_part(self):
        self.refused(Impossible, ["2##1"], (0, 2))
        self.refused(Impossible, ["1##2"], (0, 1))
        self.refused(Impossible, ["2###"], (0, 3))
        # The part of the cell would make it sure: it is refused as impossible all the same.
        self.refused(Impossible, ["2##0"], (0, 2))

    def test_impossible_by_a_lone_open_cell(self):
        self.refused(Impossible, ["501#"], (0, 3))
        self.refused(Impossible, ["10####"], (0, 2))
        self.refused(Impossible, ["10####"], (0, 5))
        self.assertEqual(sure(View(["001#"]), (0, 3)), "stone")


if __name__ == "__main__":
    unittest.main()
