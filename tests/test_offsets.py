"""[20]: the offset of a label in a row."""

import copy
import itertools
import unittest

from fieldrows.offsets import offset
from forms import NUM, row, rec


class Offsets(unittest.TestCase):
    def test_labels_that_a_shut_row_has(self):
        some = row(a=NUM, c=NUM, e=rec())
        self.assertEqual([offset(some, label, []) for label in "ace"], [(0, None), (1, None), (2, None)])

    def test_labels_that_a_shut_row_lacks(self):
        some = row(b=NUM, d=NUM)
        for label, many in (("a", 0), ("b", 0), ("ba", 1), ("c", 1), ("d", 1), ("da", 2), ("e", 2)):
            self.assertEqual(offset(some, label, []), (many, None))

    def test_a_row_without_fields(self):
        self.assertEqual(offset(row(), "a", []), (0, None))
        self.assertEqual(offset(row(0), "a", []), (0, None))
        self.assertEqual(offset(row(0), "a", [(0, "a")]), (0, 0))
        self.assertEqual(offset(row(), "a", [(0, "a")]), (0, None))

    def test_the_order_of_texts(self):
        some = row(a=NUM, ab=NUM, b=NUM)
        for label, many in (("a", 0), ("aa", 1), ("ab", 1), ("aba", 2), ("ac", 2), ("b", 2), ("ba", 3)):
            self.assertEqual(offset(some, label, []), (many, None))

    def test_an_open_row_whose_tail_is_a_parameter_with_this_label(self):
        params = [(0, "b"), (2, "a"), (2, "c"), (2, "e"), (5, "a")]
        some = row(2, b=NUM, d=NUM)
        self.assertEqual(offset(some, "a", params), (0, 1))
        self.assertEqual(offset(some, "c", params), (1, 2))
        self.assertEqual(offset(some, "e", params), (2, 3))
        self.assertEqual(offset(row(0, a=NUM, b=NUM, c=NUM), "b", params), (1, 0))
        self.assertEqual(offset(row(5, a=NUM), "a", params), (0, 4))

    def test_an_open_row_whose_tail_is_no_parameter_with_this_label(self):
        params = [(0, "b"), (2, "a"), (2, "c")]
        self.assertEqual(offset(row(1, a=NUM), "b", params), (1, None))
        self.assertEqual(offset(row(2, a=NUM), "b", params), (1, None))
        self.assertEqual(offset(row(0, a=NUM), "a", params), (0, None))
        self.assertEqual(offset(row(2, a=NUM), "c", []), (1, None))

    def test_shut_rows_have_no_parameter(self):
        self.assertEqual(offset(row(a=NUM), "b", [(0, "b"), (1, "b")]), (1, None))

    def test_each_row_and_label(self):
        labels = ("a", "ab", "b", "c")
        params = [(3, "a"), (3, "b"), (4, "a"), (4, "c")]
        for many in range(5):
            for fields in itertools.combinations(labels, many):
                for tail in (None, 3, 4, 7):
                    for label in labels:
                        told = offset(row(tail, **dict.fromkeys(fields, NUM)), label, params)
                        ahead = sum(other < label for other in fields)
                        param = params.index((tail, label)) if (tail, label) in params else None
                        self.assertEqual(told, (ahead, param))
                        self.assertIsInstance(told, tuple)

    def test_what_is_handed_in_stays_as_it_was(self):
        some, params = row(2, b=NUM), [(2, "a"), (2, "b")]
        before = copy.deepcopy((some, params))
        offset(some, "a", params)
        self.assertEqual((some, params), before)


if __name__ == "__main__":
    unittest.main()
