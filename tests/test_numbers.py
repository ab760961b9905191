"""The four signs, the two faults, the two signs of an if, and what a run may be handed [6], [31], [38]."""

import unittest

from exitweave.numbers import fault_word, holds, reckoned

GREATEST = int("9" * 40)
NOUGHT = (False, 0)
GREAT = (False, 1)


class ReckonedTest(unittest.TestCase):
    def assert_reckoned(self, op, one, other, awaited):
        told = reckoned(op, one, other)
        self.assertEqual(told, awaited, (op, one, other))
        self.assertIs(type(told), tuple)
        self.assertIs(type(told[0]), bool)
        self.assertIs(type(told[1]), int)

    def assert_results(self, op, results):
        for one, other, result in results:
            self.assert_reckoned(op, one, other, (True, result))

    def test_sums(self):
        self.assert_results("+", [(2, 3, 5), (-2, 3, 1), (2, -3, -1), (-2, -3, -5), (0, 0, 0), (0, -4, -4), (4, 0, 4)])

    def test_differences(self):
        self.assert_results("-", [(2, 3, -1), (-2, 3, -5), (2, -3, 5), (-2, -3, 1), (0, 0, 0), (0, 4, -4), (4, 0, 4)])

    def test_products(self):
        self.assert_results("*", [(2, 3, 6), (-2, 3, -6), (2, -3, -6), (-2, -3, 6), (0, 5, 0), (-5, 0, 0), (1, -7, -7)])

    def test_quotients_are_the_greatest_whole_numbers_not_above(self):
        self.assert_results("/", [
            (7, 2, 3), (-7, 2, -4), (7, -2, -4), (-7, -2, 3), (6, 2, 3), (-6, 2, -3), (6, -2, -3), (-6, -2, 3),
            (0, 5, 0), (0, -5, 0), (1, 5, 0), (-1, 5, -1), (1, -5, -1), (-1, -5, 0), (4, 1, 4), (4, -1, -4),
            (GREATEST, GREATEST, 1), (-GREATEST, GREATEST, -1), (-1, GREATEST, -1), (1, GREATEST, 0),
        ])
        for one in range(-30, 31):
            for other in [*range(-7, 0), *range(1, 8)]:
                fits = [q for q in range(-40, 41) if (q * other <= one if other > 0 else q * other >= one)]
                self.assert_reckoned("/", one, other, (True, max(fits)))

    def test_quotients_by_0(self):
        for one in (0, 1, -1, GREATEST, -GREATEST, GREATEST + 1):
            self.assert_reckoned("/", one, 0, NOUGHT)

    def test_0_is_no_fault_elsewhere(self):
        for op in "+-*":
            self.assertTrue(reckoned(op, 5, 0)[0])
            self.assertTrue(reckoned(op, 0, 0)[0])

    def test_forty_and_forty_one_figures(self):
        self.assert_results("+", [(GREATEST, 0, GREATEST), (GREATEST - 1, 1, GREATEST), (-GREATEST, 0, -GREATEST)])
        self.assert_results("-", [(-GREATEST + 1, 1, -GREATEST), (GREATEST, GREATEST, 0), (0, GREATEST, -GREATEST)])
        self.assert_results("*", [(GREATEST, 1, GREATEST), (GREATEST, -1, -GREATEST), (10 ** 20, 10 ** 19, 10 ** 39)])
        self.assert_results("/", [(GREATEST, 1, GREATEST), (GREATEST, -1, -GREATEST), (-GREATEST, -1, GREATEST)])
        self.assert_reckoned("+", GREATEST, 1, GREAT)
        self.assert_reckoned("+", -GREATEST, -1, GREAT)
        self.assert_reckoned("+", GREATEST, GREATEST, GREAT)
        self.assert_reckoned("-", GREATEST, -1, GREAT)
        self.assert_reckoned("-", -GREATEST, 1, GREAT)
        self.assert_reckoned("*", 10 ** 20, 10 ** 20, GREAT)
        self.assert_reckoned("*", -(10 ** 20), 10 ** 20, GREAT)
        self.assert_reckoned("*", GREATEST, GREATEST, GREAT)
        self.assert_reckoned("/", GREATEST + 1, 1, GREAT)
        self.assert_reckoned("/", -GREATEST - 1, 1, GREAT)

    def test_a_minus_ahead_is_no_figure(self):
        self.assert_reckoned("-", 0, 10 ** 39, (True, -(10 ** 39)))
        self.assert_reckoned("*", -1, GREATEST, (True, -GREATEST))

    def test_the_figures_of_the_result_alone_are_counted(self):
        self.assert_reckoned("-", GREATEST + 1, 1, (True, GREATEST))
        self.assert_reckoned("/", 10 ** 41, 10 ** 2, (True, 10 ** 39))
        self.assert_reckoned("*", 10 ** 50, 0, (True, 0))

    def test_the_same_each_time(self):
        self.assertEqual(reckoned("/", -7, 2), reckoned("/", -7, 2))


class FaultWordTest(unittest.TestCase):
    def test_words(self):
        self.assertEqual(fault_word(0), "nought")
        self.assertEqual(fault_word(1), "great")

    def test_words_of_what_is_reckoned(self):
        self.assertEqual(fault_word(reckoned("/", 1, 0)[1]), "nought")
        self.assertEqual(fault_word(reckoned("*", GREATEST, 2)[1]), "great")


class HoldsTest(unittest.TestCase):
    def test_less(self):
        for one, other in ((1, 2), (-2, -1), (-1, 0), (0, 1), (-GREATEST, GREATEST)):
            self.assertIs(holds("<", one, other), True)
            self.assertIs(holds("<", other, one), False)
            self.assertIs(holds("<", one, one), False)

    def test_equal(self):
        for one in (0, 1, -1, GREATEST, -GREATEST):
            self.assertIs(holds("=", one, one), True)
            self.assertIs(holds("=", one, one + 1), False)
            self.assertIs(holds("=", one + 1, one), False)
        self.assertIs(holds("=", 3, -3), False)


if __name__ == "__main__":
    unittest.main()
