"""Promise 12: rows of lists and whole spans."""

import unittest

from stillfiles.contents import is_content
from stillfiles.listing import list_row


def data(file, *spans):
    return ("data", file, 0, 1, 0, 0, (), spans)


MARKS = ("marks", "m8", 3, "d1", 2)
KEY = ("key", "k9", 3, 1, None)


class ListRow(unittest.TestCase):
    def whole(self, *entries):
        row = list_row("l7", entries)
        datas = len([entry for entry in entries if entry[0] == "data"])
        self.assertEqual(row[:3], ("l7", datas, len(entries) - datas))
        self.assertIs(is_content(("lists", (row,))), True)
        return row[3]

    def test_one_shape(self):
        entries = (data("d1", (1, 3, 5, 0), (2, "b", "c", 1)), data("d2", (1, -2, 4, 2), (2, "", "b", 0)))
        row = ("l7", 2, 0, ((1, -2, 5, 2, 0), (2, "", "c", 1, 0)))
        self.assertEqual(list_row("l7", entries), row)
        self.assertEqual(list_row(file="l7", entries=entries), row)
        self.assertEqual(list_row("l8", entries)[0], "l8")

    def test_several_shapes(self):
        one = data("d1", (4, "a", "b", 0), (2, 1, 1, 0))
        two = data("d2", (2, 5, 6, 3), (3, None, None, 1))
        three = data("d3", (4, "c", "c", 2))
        self.assertEqual(self.whole(one, two, three),
                         ((2, 1, 6, 3, 1), (3, None, None, 1, 2), (4, "a", "c", 2, 1)))

    def test_spans_rise_by_number(self):
        self.assertEqual([span[0] for span in self.whole(data("d1", (10, 1, 1, 0), (9, 1, 1, 0), (1, 1, 1, 0)))],
                         [1, 9, 10])

    def test_blanks_and_spans_without_worths(self):
        none = (1, None, None, 4)
        self.assertEqual(self.whole(data("d1", none)), ((1, None, None, 4, 0),))
        self.assertEqual(self.whole(data("d1", none), data("d2", none)), ((1, None, None, 8, 0),))
        self.assertEqual(self.whole(data("d1", none), data("d2", (1, 7, 9, 1))), ((1, 7, 9, 5, 0),))
        self.assertEqual(self.whole(data("d2", (1, 7, 9, 1)), data("d1", none)), ((1, 7, 9, 5, 0),))
        self.assertEqual(self.whole(data("d2", (1, 0, 0, 0)), data("d1", (1, "", "", 0))), ((1, 0, "", 0, 0),))

    def test_least_of_leasts_and_greatest_of_greatests(self):
        self.assertEqual(self.whole(data("d1", (1, 1, 2, 0)), data("d2", (1, 5, 9, 0)), data("d3", (1, -10, 3, 0))),
                         ((1, -10, 9, 0, 0),))
        self.assertEqual(self.whole(data("d1", (1, "ab", "b", 0)), data("d2", (1, "b", "ba", 0))),
                         ((1, "ab", "ba", 0, 0),))
        self.assertEqual(self.whole(data("d1", (1, None, 4, 0)), data("d2", (1, 2, None, 0))), ((1, 2, 4, 0, 0),))

    def test_one_number_twice_in_an_entry(self):
        self.assertEqual(self.whole(data("d1", (1, 3, 4, 1), (1, 8, 9, 2))), ((1, 3, 9, 3, 0),))
        self.assertEqual(self.whole(data("d1", (1, 3, 4, 1), (1, 8, 9, 2)), data("d2", (2, 1, 1, 0))),
                         ((1, 3, 9, 3, 1), (2, 1, 1, 0, 1)))

    def test_others(self):
        self.assertEqual(self.whole(MARKS, data("d1", (1, 3, 4, 1)), KEY), ((1, 3, 4, 1, 0),))
        self.assertEqual(list_row("l7", (MARKS, KEY, MARKS)), ("l7", 0, 3, ()))
        self.assertEqual(list_row("l7", (KEY,)), ("l7", 0, 1, ()))

    def test_no_columns(self):
        self.assertEqual(list_row("l7", (data("d1"),)), ("l7", 1, 0, ()))
        self.assertEqual(self.whole(data("d1"), data("d2", (5, 1, 1, 0))), ((5, 1, 1, 0, 1),))


if __name__ == "__main__":
    unittest.main()
