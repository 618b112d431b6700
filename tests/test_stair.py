"""Points 3, 4 and 5: worths, weights, stillness; and point 1 as far as it speaks of these."""
import itertools
import math
import unittest

from shellstair.stair import is_still, weight, worth

MANY = 10 ** 60
LONG = 300


def one_shell_on(step, shells=1):
    return [0] * step + [shells]


def worth_by_tilings(step):
    """The worth by a sum that does not use the rule of the two steps beneath."""
    length = step + 1
    return sum(math.comb(length - pairs, pairs) for pairs in range(length // 2 + 1))


def small_heaps(steps, most):
    """All heaps of up to so many steps with up to so many shells on each."""
    for length in range(steps + 1):
        for heap in itertools.product(range(most + 1), repeat=length):
            if not heap or heap[-1] != 0:
                yield list(heap)


def still_by_pairs(heap):
    shells = [step for step, count in enumerate(heap) for shell in range(count)]
    return all(b - a >= 2 for a, b in zip(shells, shells[1:]))


class Unchanged(unittest.TestCase):
    def ask(self, question, heap):
        """Asks twice, and sees that the list is as it was."""
        kept = list(heap)
        answer = question(heap)
        self.assertEqual(heap, kept)
        self.assertEqual(question(heap), answer)
        self.assertEqual(heap, kept)
        return answer


class Worth(unittest.TestCase):
    def test_written_worths(self):
        self.assertEqual([worth(step) for step in range(6)], [1, 2, 3, 5, 8, 13])

    def test_rule_of_the_two_steps_right_beneath(self):
        for step in [*range(2, 320), 1000, 5000, 9998, 9999, 10000]:
            with self.subTest(step=step):
                self.assertEqual(worth(step), worth(step - 1) + worth(step - 2))

    def test_against_a_sum_of_its_own(self):
        for step in [*range(60), 298, 299, 300, 301, 2000]:
            with self.subTest(step=step):
                self.assertEqual(worth(step), worth_by_tilings(step))

    def test_against_far_steps_by_squares(self):
        # The worth times that of two steps on lies 1 beside the square between: so far steps hang together.
        for step in (299, 300, 4999, 9997, 9998):
            with self.subTest(step=step):
                beside = worth(step) * worth(step + 2) - worth(step + 1) ** 2
                self.assertEqual(beside, -1 if step % 2 == 0 else 1)

    def test_a_known_far_one(self):
        self.assertEqual(worth(98), 354224848179261915075)

    def test_every_step_from_0_to_10000(self):
        beneath, here = 1, 1
        for step in range(10001):
            self.assertEqual(worth(step), here, step)
            beneath, here = here, beneath + here

    def test_answer_is_an_int(self):
        for step in (0, 1, 2, 3, 299, 300, 9999, 10000):
            with self.subTest(step=step):
                self.assertIs(type(worth(step)), int)

    def test_answer_hangs_on_the_step_alone(self):
        far = worth(10000)
        self.assertEqual(worth(0), 1)
        self.assertEqual(worth(1), 2)
        self.assertEqual(worth(10000), far)


class Weight(Unchanged):
    def weigh(self, heap):
        told = self.ask(weight, heap)
        self.assertIs(type(told), int)
        return told

    def test_heap_without_shells(self):
        self.assertEqual(self.weigh([]), 0)

    def test_single_shells(self):
        for step in range(LONG):
            with self.subTest(step=step):
                self.assertEqual(self.weigh(one_shell_on(step)), worth(step))

    def test_written_heaps(self):
        for heap, told in (
            ([1], 1),
            ([7], 7),
            ([0, 1], 2),
            ([1, 1], 3),
            ([1, 0, 1], 4),
            ([0, 2, 0, 1], 9),
            ([3, 0, 0, 2], 13),
            ([0, 0, 0, 0, 4], 32),
            ([1, 2, 3, 4, 5, 6], 1 + 4 + 9 + 20 + 40 + 78),
            ([5, 0, 0, 0, 0, 1], 18),
        ):
            with self.subTest(heap=heap):
                self.assertEqual(self.weigh(heap), told)

    def test_small_heaps_by_their_shells_one_by_one(self):
        values = (1, 2, 3, 5, 8)
        for heap in small_heaps(5, 3):
            shells = [values[step] for step, count in enumerate(heap) for shell in range(count)]
            self.assertEqual(self.weigh(heap), sum(shells), heap)

    def test_300_steps_with_a_shell_each(self):
        # All steps from 0 to k together are worth 2 less than step k + 2.
        self.assertEqual(self.weigh([1] * LONG), worth_by_tilings(LONG + 1) - 2)

    def test_300_steps_with_gaps(self):
        heap = [step % 4 for step in range(LONG)]
        self.assertEqual(heap[-1], 3)
        told = sum(worth_by_tilings(step) * (step % 4) for step in range(LONG))
        self.assertEqual(self.weigh(heap), told)

    def test_long_gap_amid(self):
        heap = [2] + [0] * 298 + [3]
        self.assertEqual(self.weigh(heap), 2 + 3 * worth_by_tilings(299))

    def test_very_many_shells(self):
        self.assertEqual(self.weigh([MANY]), MANY)
        self.assertEqual(self.weigh([1, MANY]), 2 * MANY + 1)
        self.assertEqual(self.weigh(one_shell_on(299, MANY)), MANY * worth_by_tilings(299))
        self.assertEqual(self.weigh([MANY] * LONG), MANY * (worth_by_tilings(LONG + 1) - 2))

    def test_one_shell_more_weighs_its_worth_more(self):
        heap = [(7 * step) % 5 for step in range(LONG - 1)] + [MANY]
        base = self.weigh(heap)
        for step in range(0, LONG, 13):
            more = list(heap)
            more[step] += 1
            with self.subTest(step=step):
                self.assertEqual(self.weigh(more) - base, worth(step))


class Still(Unchanged):
    def check(self, heap, told):
        answer = self.ask(is_still, heap)
        self.assertIs(answer, told, heap)

    def test_heap_without_shells(self):
        self.check([], True)

    def test_single_shells(self):
        for step in range(LONG):
            self.check(one_shell_on(step), True)

    def test_two_or_more_on_a_step(self):
        for shells in (2, 3, 4, 17, 10 ** 18, MANY):
            for step in (0, 1, 2, 3, 150, 298, 299):
                self.check(one_shell_on(step, shells), False)

    def test_two_or_more_on_a_step_amid_a_heap_else_still(self):
        for step in range(0, 299, 2):
            for shells in (2, MANY):
                heap = [1, 0] * 149 + [1]
                heap[step] = shells
                self.check(heap, False)

    def test_neighbours_at_every_place_of_a_long_heap(self):
        for step in range(LONG - 1):
            heap = [0] * LONG
            heap[step] = 1
            heap[step + 1] = 1
            if step < LONG - 3:
                heap[LONG - 1] = 1
            while heap[-1] == 0:
                heap.pop()
            self.check(heap, False)

    def test_neighbours_by_hand(self):
        for heap in ([1, 1], [1, 1, 0, 1], [0, 1, 1], [1, 0, 1, 1], [1, 0, 1, 1, 0, 1], [0, 0, 0, 1, 1], [1, 1, 1]):
            self.check(heap, False)

    def test_many_beside_few(self):
        for heap in ([2, 1], [1, 2], [0, 2, 0, 1], [1, 0, 2], [MANY, 0, 1], [1, 0, MANY], [MANY, MANY]):
            self.check(heap, False)

    def test_an_empty_step_between(self):
        for heap in ([1, 0, 1], [0, 1, 0, 1], [1, 0, 0, 1], [1, 0, 1, 0, 1], [0, 1, 0, 0, 0, 1]):
            self.check(heap, True)

    def test_long_still_heaps(self):
        self.check([0, 1] * 150, True)
        self.check([1, 0] * 149 + [0, 1], True)
        self.check([0, 0, 1] * 100, True)
        self.check([1] + [0] * 298 + [1], True)

    def test_all_small_heaps(self):
        for heap in small_heaps(6, 3):
            self.check(heap, still_by_pairs(heap))


class Together(unittest.TestCase):
    def test_still_heaps_of_few_steps_have_each_weight_once(self):
        steps = 12
        weights = sorted(weight(heap) for heap in small_heaps(steps, 1) if is_still(heap))
        self.assertEqual(weights, list(range(worth(steps))))


if __name__ == "__main__":
    unittest.main()
