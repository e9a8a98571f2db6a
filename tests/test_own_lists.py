"""Nothing handed in is changed or kept, and what is told is the asker's own."""

import unittest

from dampfield.parts import layings, parts
from dampfield.views import View, closed, edge, far, keeps, near
from samples import THREE_PARTS, TWELVE


def answers(view):
    return [
        list(view.rows), view.height, view.width,
        near(view, (0, 0)), closed(view), edge(view), far(view),
        keeps(view, []), parts(view), layings(view, (0, 1)),
    ]


def lists_of(told):
    found = [told]
    for inner in told:
        if isinstance(inner, list):
            found += lists_of(inner)
    return found


class HandedIn(unittest.TestCase):
    def test_rows_stay_as_they_were(self):
        rows = list(THREE_PARTS)
        answers(View(rows))
        self.assertEqual(rows, THREE_PARTS)

    def test_rows_are_not_kept(self):
        rows = list(THREE_PARTS)
        view = View(rows)
        before = answers(view)
        rows[0] = "000000"
        rows.append("no row")
        self.assertEqual(view.rows, THREE_PARTS)
        self.assertEqual(answers(view), before)
        rows.clear()
        self.assertEqual(answers(view), before)

    def test_two_views_of_one_list_share_nothing(self):
        rows = ["1#"]
        one, other = View(rows), View(rows)
        self.assertIsNot(one.rows, other.rows)
        self.assertIsNot(one.rows, rows)

    def test_a_view_from_the_rows_of_another(self):
        one = View(["1#"])
        self.assertIsNot(View(one.rows).rows, one.rows)

    def test_refused_rows_stay_as_they_were(self):
        rows = ["##", "#9"]
        with self.assertRaises(ValueError):
            View(rows)
        self.assertEqual(rows, ["##", "#9"])

    def test_a_laying_stays_as_it_was(self):
        view = View(["1##", "###"])
        laying = [(0, 1), (0, 2)]
        self.assertIs(keeps(view, laying), True)
        self.assertEqual(laying, [(0, 1), (0, 2)])
        laying.append((1, 0))
        self.assertIs(keeps(view, laying), False)
        self.assertEqual(laying, [(0, 1), (0, 2), (1, 0)])
        self.assertIs(keeps(view, [(0, 1), (0, 2)]), True)

    def test_a_list_that_is_no_laying_stays_as_it_was(self):
        laying = [(0, 2), (0, 1), (0, 1)]
        with self.assertRaises(ValueError):
            keeps(View(["1##"]), laying)
        self.assertEqual(laying, [(0, 2), (0, 1), (0, 1)])

    def test_a_view_stays_as_it_was(self):
        view = View(THREE_PARTS)
        answers(view)
        self.assertEqual((view.rows, view.height, view.width), (THREE_PARTS, 6, 6))


class Told(unittest.TestCase):
    def asked(self, view):
        return [
            lambda: near(view, (0, 1)),
            lambda: closed(view),
            lambda: edge(view),
            lambda: far(view),
            lambda: parts(view),
            lambda: layings(view, (0, 1)),
        ]

    def test_changing_what_was_told_changes_no_later_answer(self):
        for rows in [THREE_PARTS, TWELVE, ["1##", "###"], ["0#"], ["2#"]]:
            view = View(rows)
            before = answers(view)
            for ask in self.asked(view):
                for told in lists_of(ask()):
                    told.append((7, 7))
                    told.reverse()
                for told in lists_of(ask()):
                    told.clear()
            self.assertEqual(answers(view), before)

    def test_no_two_lists_are_one(self):
        for rows in [THREE_PARTS, TWELVE, ["1##", "###"], ["0#"], ["2#"]]:
            view = View(rows)
            kept = [view.rows]
            for ask in self.asked(view) + self.asked(view):
                kept += lists_of(ask())
            self.assertEqual(len({id(told) for told in kept}), len(kept))

    def test_cells_are_tuples(self):
        view = View(THREE_PARTS)
        told = near(view, (1, 1)) + closed(view) + edge(view) + far(view)
        for inner in parts(view) + layings(view, (0, 1)):
            told += inner
        self.assertEqual({type(cell) for cell in told}, {tuple})
        self.assertEqual({type(number) for cell in told for number in cell}, {int})


if __name__ == "__main__":
    unittest.main()
