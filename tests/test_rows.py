"""Points 12 to 14: rows of numbers, held against one another, added, taken away, woven; and point 1 for these."""
import itertools
import random
import unittest

from shellstair.errors import NoNumber, Short
from shellstair.rows import before, minus, plus, row_of, woven

BOUND = 10 ** 60
WORTHS = [1, 2]
while len(WORTHS) < 320:
    WORTHS.append(WORTHS[-1] + WORTHS[-2])
NO_NUMBERS = (
    -1, -2, -BOUND, BOUND, BOUND + 1, 10 ** 61, 10 ** 5000, -10 ** 5000, True, False, None,
    "", "0", "1", "oo", [], [0], [1], (), (1,), {}, 0.0, 1.0, 1.5, b"1",
)


def weigh(heap):
    return sum(shells * value for shells, value in zip(heap, WORTHS))


def one_shell_on(step):
    return [0] * step + [1]


def chance_row(chance, steps):
    """A still heap of just so many steps; the chance is seeded, so each run sees the same ones."""
    told = [0] * (steps - 1) + [1] if steps else []
    for step in range(steps - 3, -1, -1):
        if told[step + 1] == 0:
            told[step] = chance.randint(0, 1)
    return told


class Asked(unittest.TestCase):
    def ask(self, question, *heaps):
        """Asks, and sees that what was handed in is as it was, and that what is told is the asker's own."""
        kept = [list(heap) for heap in heaps]
        told = question(*heaps)
        self.assertEqual(list(heaps), kept)
        for heap in heaps:
            self.assertIsNot(told, heap)
        if isinstance(told, list):
            first = list(told)
            told.append(1)
            self.assertEqual(list(heaps), kept)
            self.assertEqual(question(*heaps), first)
            told = first
        return told

    def check_row(self, heap, total):
        """A list with noughts and ones alone, no two ones side by side, a one at its end, of the weight asked."""
        self.assertIs(type(heap), list)
        for shells in heap:
            self.assertIs(type(shells), int)
        signs = "".join(str(shells) for shells in heap)
        self.assertEqual(signs.strip("01"), "")
        self.assertNotIn("11", signs)
        self.assertFalse(signs.endswith("0"))
        self.assertLessEqual(len(heap), len(WORTHS))
        self.assertEqual(weigh(heap), total)


class RowOf(Asked):
    def check(self, number):
        told = row_of(number)
        self.check_row(told, number)
        return told

    def test_written(self):
        for number, told in (
            (0, []), (1, [1]), (2, [0, 1]), (3, [0, 0, 1]), (4, [1, 0, 1]), (5, [0, 0, 0, 1]), (6, [1, 0, 0, 1]),
            (7, [0, 1, 0, 1]), (8, [0, 0, 0, 0, 1]), (12, [1, 0, 1, 0, 1]), (13, [0, 0, 0, 0, 0, 1]),
            (100, [0, 0, 1, 0, 1, 0, 0, 0, 0, 1]),
        ):
            with self.subTest(number=number):
                self.assertEqual(self.check(number), told)

    def test_many_numbers(self):
        for number in range(3000):
            self.check(number)

    def test_worths_and_their_neighbours(self):
        for step, value in enumerate(WORTHS):
            if value + 1 < BOUND:
                self.assertEqual(self.check(value), one_shell_on(step))
                self.check(value + 1)
                # One less than a step's worth is told by every second one of the steps beneath it.
                self.assertEqual(self.check(value - 1), [(step - beneath) % 2 for beneath in range(step)])

    def test_great_numbers(self):
        chance = random.Random(12)
        for number in (BOUND - 1, BOUND - 2, BOUND // 2, 10 ** 59, 2 ** 64, 2 ** 63 - 1, 2 ** 199):
            self.check(number)
        for asked in range(200):
            self.check(chance.randrange(10 ** chance.randint(1, 60)))

    def test_refused(self):
        for number in NO_NUMBERS:
            with self.assertRaises(NoNumber) as seen:
                row_of(number)
            self.assertIs(type(seen.exception), NoNumber)

    def test_refused_lists_are_as_they_were(self):
        handed = [1, 0, 1]
        with self.assertRaises(NoNumber):
            row_of(handed)
        self.assertEqual(handed, [1, 0, 1])

    def test_own_lists(self):
        for number in (0, 1, 4, BOUND - 1):
            told = row_of(number)
            kept = list(told)
            self.assertIsNot(row_of(number), told)
            told.append(1)
            self.assertEqual(row_of(number), kept)


class Before(Asked):
    def check(self, one, other, told):
        self.assertIs(self.ask(before, one, other), told, (one, other))

    def test_all_pairs_of_small_rows(self):
        for one, other in itertools.product(range(60), repeat=2):
            self.check(row_of(one), row_of(other), one < other)

    def test_written(self):
        self.check([], [], False)
        self.check([], [1], True)
        self.check([1], [], False)
        self.check([1, 0, 1], [0, 0, 0, 1], True)
        self.check([0, 0, 0, 1], [1, 0, 1], False)
        self.check([1, 0, 0, 1], [0, 1, 0, 1], True)
        self.check([0, 1, 0, 1], [1, 0, 0, 1], False)

    def test_one_list_twice(self):
        for heap in ([], [1], [0, 1, 0, 1], [0, 1] * 150):
            self.check(heap, heap, False)
            self.check(heap, list(heap), False)

    def test_neighbours_and_far_ones(self):
        for number in (10, WORTHS[50], WORTHS[200], BOUND - 2):
            self.check(row_of(number), row_of(number + 1), True)
            self.check(row_of(number + 1), row_of(number), False)
            self.check([], row_of(number), True)
            self.check(row_of(number), [], False)

    def test_long_ones(self):
        self.check([0, 1] * 149, [0, 1] * 150, True)
        self.check([1, 0] * 149 + [1], one_shell_on(299), True)
        self.check(one_shell_on(299), [1, 0] * 149 + [1], False)
        self.check(one_shell_on(299), [1] + one_shell_on(298), True)
        self.check([1] + one_shell_on(298), one_shell_on(299), False)


class Plus(Asked):
    def check(self, one, other):
        told = self.ask(plus, one, other)
        self.check_row(told, weigh(one) + weigh(other))
        self.assertEqual(self.ask(plus, other, one), told)
        return told

    def test_all_pairs_of_small_rows(self):
        for one, other in itertools.product(range(60), repeat=2):
            self.assertEqual(self.check(row_of(one), row_of(other)), row_of(one + other))

    def test_nothing_added(self):
        for heap in ([], [1], [0, 1, 0, 0, 1], one_shell_on(299), [0, 1] * 150):
            self.assertEqual(self.check(heap, []), heap)
            self.assertEqual(self.check([], heap), heap)

    def test_one_list_twice(self):
        self.assertEqual(self.check([1], [1]), [0, 1])
        heap = row_of(BOUND - 1)
        self.check_row(self.ask(plus, heap, heap), 2 * BOUND - 2)

    def test_sums_beyond_the_numbers_with_a_row(self):
        self.check(row_of(BOUND - 1), [1])
        self.check(row_of(BOUND - 1), row_of(BOUND - 1))
        self.check(row_of(BOUND - 1), one_shell_on(298))

    def test_sums_of_300_steps(self):
        self.assertEqual(len(self.check(one_shell_on(298), one_shell_on(297))), 300)
        self.assertEqual(self.check([0, 1] * 149, [1]), one_shell_on(298))
        self.assertEqual(self.check([1, 0] * 149 + [1], [1]), one_shell_on(299))
        self.assertEqual(self.check([1, 0] * 149 + [0, 1], []), [1, 0] * 149 + [0, 1])
        self.assertEqual(len(self.check(one_shell_on(298), one_shell_on(298))), 300)
        chance = random.Random(13)
        for asked in range(60):
            told = self.check(chance_row(chance, chance.randint(0, 298)), chance_row(chance, 299))
            self.assertLessEqual(len(told), 300)

    def test_the_greatest_sum_of_300_steps(self):
        self.assertEqual(self.check([0, 0] + [0, 1] * 149, [0, 1]), [0, 1] * 150)
        self.assertEqual(self.check(one_shell_on(299), [0, 1] * 149), [0, 1] * 150)


class Minus(Asked):
    def check(self, one, other):
        told = self.ask(minus, one, other)
        self.check_row(told, weigh(one) - weigh(other))
        return told

    def check_short(self, one, other):
        kept = (list(one), list(other))
        with self.assertRaises(Short) as seen:
            minus(one, other)
        self.assertIs(type(seen.exception), Short)
        self.assertEqual((one, other), kept)

    def test_all_pairs_of_small_rows(self):
        for one, other in itertools.product(range(60), repeat=2):
            if one < other:
                self.check_short(row_of(one), row_of(other))
            else:
                self.assertEqual(self.check(row_of(one), row_of(other)), row_of(one - other))

    def test_nothing_taken_away(self):
        for heap in ([], [1], [0, 1, 0, 0, 1], one_shell_on(299), [0, 1] * 150):
            self.assertEqual(self.check(heap, []), heap)

    def test_an_equal_one_leaves_nothing(self):
        for heap in ([], [1], [0, 1, 0, 0, 1], one_shell_on(299), [0, 1] * 150):
            self.assertEqual(self.check(heap, list(heap)), [])
            self.assertEqual(minus(heap, heap), [])

    def test_neighbours(self):
        for number in (0, 1, 4, WORTHS[100], WORTHS[280] - 1, BOUND - 2):
            self.assertEqual(self.check(row_of(number + 1), row_of(number)), [1])
            self.check_short(row_of(number), row_of(number + 1))

    def test_short_far_apart(self):
        self.check_short([], [1])
        self.check_short([], one_shell_on(299))
        self.check_short([1], row_of(BOUND - 1))
        self.check_short([1, 0] * 149 + [1], one_shell_on(299))

    def test_long_ones(self):
        self.assertEqual(self.check(one_shell_on(299), [1]), [1, 0] * 149 + [1])
        self.assertEqual(self.check(one_shell_on(299), [1, 0] * 149 + [1]), [1])
        self.assertEqual(self.check(one_shell_on(299), one_shell_on(298)), one_shell_on(297))
        chance = random.Random(31)
        for asked in range(60):
            one = chance_row(chance, 299)
            other = chance_row(chance, chance.randint(0, 298))
            self.assertEqual(self.check(plus(one, other), other), one)
            self.check(one, other)
            self.check_short(other, one)


class Woven(Asked):
    def check(self, one, other):
        told = self.ask(woven, one, other)
        laid = [(a, b) for a, shell in enumerate(one) if shell for b, shell_too in enumerate(other) if shell_too]
        self.check_row(told, sum(WORTHS[a + b + 2] for a, b in laid))
        self.assertEqual(self.ask(woven, other, one), told)
        return told

    def test_written(self):
        for one, other, told in (
            ([1], [1], [0, 0, 1]),
            ([1], [0, 1], [0, 0, 0, 1]),
            ([0, 1], [0, 1], [0, 0, 0, 0, 1]),
            ([1, 0, 1], [1], [0, 0, 1, 0, 1]),
            # Shells on the steps 2, 4, 4 and 6, worth 3 + 8 + 8 + 21 = 40 = 34 + 5 + 1.
            ([1, 0, 1], [1, 0, 1], [1, 0, 0, 1, 0, 0, 0, 1]),
        ):
            with self.subTest(one=one, other=other):
                self.assertEqual(self.check(one, other), told)

    def test_with_nothing(self):
        for heap in ([], [1], [0, 1], [0, 1] * 148, one_shell_on(299)):
            self.assertEqual(self.check(heap, []), [])
            self.assertEqual(self.check([], heap), [])

    def test_single_shells(self):
        for one in range(0, 297, 11):
            for other in (0, 1, 2, 5, 40, 296 - one):
                if one + other <= 296:
                    self.assertEqual(self.check(one_shell_on(one), one_shell_on(other)), one_shell_on(one + other + 2))

    def test_all_pairs_of_small_rows(self):
        for one, other in itertools.combinations_with_replacement(range(40), 2):
            self.check(row_of(one), row_of(other))

    def test_long_heaps_up_to_step_298(self):
        self.check([1], [1, 0] * 148 + [1])
        self.check([1, 0] * 74 + [1], [1, 0] * 74 + [1])
        chance = random.Random(14)
        for asked in range(25):
            steps = chance.randint(1, 297)
            self.check(chance_row(chance, steps), chance_row(chance, 298 - steps))

    def check_grouping(self, one, other, third):
        told = self.ask(woven, woven(one, other), third)
        self.assertEqual(self.ask(woven, one, woven(other, third)), told)
        for first, second, last in itertools.permutations((one, other, third)):
            self.assertEqual(woven(woven(first, second), last), told)

    def test_three_in_both_groupings(self):
        for numbers in itertools.combinations_with_replacement(range(12), 3):
            self.check_grouping(*[row_of(number) for number in numbers])

    def test_three_long_ones_in_both_groupings(self):
        chance = random.Random(41)
        for asked in range(15):
            self.check_grouping(*[chance_row(chance, chance.randint(0, 95)) for heap in range(3)])
        self.check_grouping(row_of(10 ** 19 - 1), row_of(10 ** 19), row_of(WORTHS[90] - 1))


if __name__ == "__main__":
    unittest.main()
