"""Point 6: shelves."""

import unittest

from farbooks.shelf import Shelf


class Puts(unittest.TestCase):

    def test_what_was_put_first_stays(self):
        shelf = Shelf()
        shelf.put("a", 5, 10)
        shelf.put("a", 5, 20)
        self.assertEqual(shelf.at("a", 5), 10)
        self.assertEqual(shelf.newest("a"), (5, 10))
        self.assertEqual(shelf.rows(("", "")), [("a", 5, 10)])

    def test_also_where_it_is_nought_or_less(self):
        shelf = Shelf()
        shelf.put("a", 5, 0)
        shelf.put("a", 5, 20)
        shelf.put("b", 0, -3)
        shelf.put("b", 0, 4)
        self.assertEqual(shelf.rows(("", "")), [("a", 5, 0), ("b", 0, -3)])

    def test_keys_are_apart(self):
        shelf = Shelf()
        shelf.put("a", 5, 10)
        shelf.put("aa", 5, 20)
        self.assertEqual([shelf.at(key, 5) for key in ("a", "aa", "aaa")], [10, 20, 0])


class At(unittest.TestCase):

    def setUp(self):
        self.shelf = Shelf()
        self.shelf.put("k", 7, 70)
        self.shelf.put("k", 3, -30)
        self.shelf.put("k", 10, 1)

    def test_ahead_of_the_moments(self):
        self.assertEqual([self.shelf.at("k", moment) for moment in (0, 2)], [0, 0])

    def test_at_the_moments(self):
        self.assertEqual([self.shelf.at("k", moment) for moment in (3, 7, 10)], [-30, 70, 1])

    def test_between_the_moments(self):
        self.assertEqual([self.shelf.at("k", moment) for moment in (4, 6, 8, 9)], [-30, -30, 70, 70])

    def test_behind_the_moments(self):
        self.assertEqual([self.shelf.at("k", moment) for moment in (11, 10 ** 12)], [1, 1])

    def test_of_a_key_of_which_nothing_was_put(self):
        self.assertEqual(self.shelf.at("j", 0), 0)
        self.assertEqual(self.shelf.at("kk", 10 ** 12), 0)
        self.assertEqual(self.shelf.rows(("", "")), [("k", 3, -30), ("k", 7, 70), ("k", 10, 1)])

    def test_a_value_at_the_moment_nought(self):
        self.shelf.put("z", 0, 9)
        self.assertEqual(self.shelf.at("z", 0), 9)
        self.assertEqual(self.shelf.newest("z"), (0, 9))

    def test_the_greatest_moments(self):
        self.shelf.put("z", 10 ** 12, 9)
        self.assertEqual(self.shelf.at("z", 10 ** 12 - 1), 0)
        self.assertEqual(self.shelf.at("z", 10 ** 12), 9)


class Newest(unittest.TestCase):

    def test_of_the_greatest_moment_not_of_the_last_put(self):
        shelf = Shelf()
        shelf.put("k", 7, 70)
        shelf.put("k", 3, 300)
        self.assertEqual(shelf.newest("k"), (7, 70))
        shelf.put("k", 8, -1)
        self.assertEqual(shelf.newest("k"), (8, -1))

    def test_of_a_key_of_which_nothing_was_put(self):
        shelf = Shelf()
        self.assertEqual(shelf.newest("k"), (0, 0))
        shelf.put("k", 7, 70)
        self.assertEqual(shelf.newest("j"), (0, 0))
        self.assertEqual(shelf.newest("j"), (0, 0))
        self.assertEqual(shelf.rows(("", "")), [("k", 7, 70)])


class Rows(unittest.TestCase):

    def setUp(self):
        self.shelf = Shelf()
        for key, moment, value in (("m", 5, 1), ("b", 9, 2), ("ba", 1, 3), ("b", 10, 4), ("a", 2, 9), ("b", 2, 5)):
            self.shelf.put(key, moment, value)

    def test_of_all_keys_sorted(self):
        self.assertEqual(
            self.shelf.rows(("", "")),
            [("a", 2, 9), ("b", 2, 5), ("b", 9, 2), ("b", 10, 4), ("ba", 1, 3), ("m", 5, 1)],
        )

    def test_of_a_part_of_the_keys(self):
        self.assertEqual(self.shelf.rows(("b", "ba")), [("b", 2, 5), ("b", 9, 2), ("b", 10, 4)])
        self.assertEqual(self.shelf.rows(("ba", "m")), [("ba", 1, 3)])
        self.assertEqual(self.shelf.rows(("ba", "")), [("ba", 1, 3), ("m", 5, 1)])
        self.assertEqual(self.shelf.rows(("", "b")), [("a", 2, 9)])
        self.assertEqual(self.shelf.rows(("n", "")), [])
        self.assertEqual(Shelf().rows(("", "")), [])

    def test_they_are_a_list_of_tuples(self):
        rows = self.shelf.rows(("", ""))
        self.assertIsInstance(rows, list)
        self.assertTrue(all(isinstance(row, tuple) for row in rows))


class Take(unittest.TestCase):

    def test_in_the_order_of_the_rows(self):
        shelf = Shelf()
        shelf.take([("k", 5, 1), ("j", 4, 9), ("k", 5, 2), ("k", 3, 7)])
        self.assertEqual(shelf.rows(("", "")), [("j", 4, 9), ("k", 3, 7), ("k", 5, 1)])
        other = Shelf()
        other.take([("k", 5, 2), ("j", 4, 9), ("k", 5, 1)])
        self.assertEqual(other.rows(("", "")), [("j", 4, 9), ("k", 5, 2)])

    def test_what_is_there_stays(self):
        shelf = Shelf()
        shelf.put("k", 5, 1)
        shelf.take([("k", 5, 2), ("k", 6, 3)])
        self.assertEqual(shelf.rows(("", "")), [("k", 5, 1), ("k", 6, 3)])

    def test_no_rows_and_a_tuple_of_rows(self):
        shelf = Shelf()
        shelf.take([])
        self.assertEqual(shelf.rows(("", "")), [])
        shelf.take((("k", 5, 2),))
        self.assertEqual(shelf.rows(("", "")), [("k", 5, 2)])

    def test_what_another_shelf_told(self):
        shelf, other = Shelf(), Shelf()
        shelf.take([("k", 5, 1), ("j", 4, 9)])
        other.take(shelf.rows(("", "")))
        shelf.put("k", 6, 2)
        self.assertEqual(other.rows(("", "")), [("j", 4, 9), ("k", 5, 1)])


if __name__ == "__main__":
    unittest.main()
