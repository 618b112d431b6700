"""Points 6 to 11: moves, which fit, what lies behind them, a heap carried to its end; and point 1 for these."""
import itertools
import math
import random
import unittest

from shellstair.errors import NoMove
from shellstair.moves import carried, done, fits, moves
from shellstair.stair import is_still, weight, worth

MANY = 10 ** 60
FAR = 10 ** 18


def heap_of(shells):
    """The heap of a dict from steps to shells."""
    used = [step for step, count in shells.items() if count]
    return [shells.get(step, 0) for step in range(max(used, default=-1) + 1)]


def small_heaps(steps, most):
    for length in range(steps + 1):
        for heap in itertools.product(range(most + 1), repeat=length):
            if heap[-1:] != (0,):
                yield list(heap)


def chance_heap(chance, shells, top):
    """A heap of so many shells, none above the top; the chance is seeded, so each run sees the same ones."""
    told = {}
    for shell in range(shells):
        step = chance.randint(0, top)
        told[step] = told.get(step, 0) + 1
    return heap_of(told)


def takes_and_lays(move):
    """What the document says of a move: the steps of the shells it takes, and of those it lays."""
    kind, step = move
    if kind == "join":
        return (step, step + 1), (step + 2,)
    lays = {0: (1,), 1: (2, 0)}.get(step, (step + 1, step - 2))
    return (step, step), lays


def fits_by_shells(heap, move):
    shells = dict(enumerate(heap))
    for step in takes_and_lays(move)[0]:
        shells[step] = shells.get(step, 0) - 1
    return min(shells.values()) >= 0


def done_by_shells(heap, move):
    shells = dict(enumerate(heap))
    takes, lays = takes_and_lays(move)
    for step in takes:
        shells[step] -= 1
    for step in lays:
        shells[step] = shells.get(step, 0) + 1
    return heap_of(shells)


def bound(heap):
    return sum(shells * (3 if step == 0 else step + 4) for step, shells in enumerate(heap))


class Asked(unittest.TestCase):
    def unchanged(self, question, *handed):
        """Asks, and sees that the lists handed in are as they were."""
        kept = [list(one) if isinstance(one, list) else one for one in handed]
        try:
            return question(*handed)
        finally:
            self.assertEqual(list(handed), kept)

    def check_heap(self, heap):
        self.assertIs(type(heap), list)
        for shells in heap:
            self.assertIs(type(shells), int)
            self.assertGreaterEqual(shells, 0)
        self.assertNotEqual(heap[-1:], [0])

    def check_fits(self, heap, move, told):
        self.assertIs(self.unchanged(fits, heap, move), told, (heap, move))

    def check_done(self, heap, move, told):
        self.check_fits(heap, move, True)
        behind = self.unchanged(done, heap, move)
        self.assertEqual(behind, told, (heap, move))
        self.check_heap(behind)
        self.assertIsNot(behind, heap)
        self.assertEqual(weight(behind), weight(heap), (heap, move))

    def check_refused(self, heap, move):
        self.check_fits(heap, move, False)
        with self.assertRaises(NoMove) as seen:
            self.unchanged(done, heap, move)
        self.assertIs(type(seen.exception), NoMove)


class Joins(Asked):
    def test_written(self):
        for heap, step, told in (
            ([1, 1], 0, [0, 0, 1]),
            ([1, 1, 1], 0, [0, 0, 2]),
            ([1, 1, 1], 1, [1, 0, 0, 1]),
            ([2, 3], 0, [1, 2, 1]),
            ([0, 1, 1], 1, [0, 0, 0, 1]),
            ([0, 2, 1], 1, [0, 1, 0, 1]),
            ([5, 0, 1, 4], 2, [5, 0, 0, 3, 1]),
            ([1, 1, 0, 1], 0, [0, 0, 1, 1]),
            ([1, 0, 1, 1, 0, 2], 2, [1, 0, 0, 0, 1, 2]),
            ([MANY, MANY], 0, [MANY - 1, MANY - 1, 1]),
        ):
            with self.subTest(heap=heap, step=step):
                self.check_done(heap, ("join", step), told)

    def test_at_every_step_of_a_long_stair(self):
        for step in range(299):
            self.check_done([0] * step + [1, 1], ("join", step), [0] * (step + 2) + [1])
            self.check_done([0] * step + [1, 2], ("join", step), [0] * (step + 1) + [1, 1])

    def test_one_of_both_steps_empty(self):
        for heap, step in (
            ([], 0), ([1], 0), ([MANY], 0), ([0, 1], 0), ([0, 7], 0), ([1, 0, 1], 0), ([1, 0, 1], 1),
            ([0, 0, 1, 1], 1), ([0, 0, 1, 1], 0), ([3, 3, 0, 3], 2),
        ):
            with self.subTest(heap=heap, step=step):
                self.check_refused(heap, ("join", step))

    def test_at_the_top_of_the_list_and_beyond(self):
        for heap in ([1], [1, 1], [2, 2, 2], [0, 1, 1, 5], [1] * 300):
            for step in (len(heap) - 1, len(heap), len(heap) + 1, len(heap) + 2):
                with self.subTest(steps=len(heap), step=step):
                    self.check_refused(heap, ("join", step))


class Parts(Asked):
    def test_written(self):
        for heap, step, told in (
            ([2], 0, [0, 1]),
            ([3], 0, [1, 1]),
            ([2, 1], 0, [0, 2]),
            ([2, 0, 1], 0, [0, 1, 1]),
            ([0, 2], 1, [1, 0, 1]),
            ([0, 3], 1, [1, 1, 1]),
            ([4, 2, 1], 1, [5, 0, 2]),
            ([0, 0, 2], 2, [1, 0, 0, 1]),
            ([1, 1, 4], 2, [2, 1, 2, 1]),
            ([0, 0, 0, 2], 3, [0, 1, 0, 0, 1]),
            ([0, 5, 0, 3, 1], 3, [0, 6, 0, 1, 2]),
            ([MANY], 0, [MANY - 2, 1]),
            ([MANY, MANY, MANY], 1, [MANY + 1, MANY - 2, MANY + 1]),
        ):
            with self.subTest(heap=heap, step=step):
                self.check_done(heap, ("part", step), told)

    def test_at_every_step_of_a_long_stair(self):
        for step in range(2, 300):
            self.check_done([0] * step + [2], ("part", step), [0] * (step - 2) + [1, 0, 0, 1])
            self.check_done([0] * step + [3], ("part", step), [0] * (step - 2) + [1, 0, 1, 1])

    def test_fewer_than_two_shells(self):
        for heap, step in (
            ([], 0), ([1], 0), ([1, 2], 0), ([0, 2], 0), ([2, 1], 1), ([2, 0, 2], 1), ([2, 2, 1], 2), ([2, 2, 0, 2], 2),
        ):
            with self.subTest(heap=heap, step=step):
                self.check_refused(heap, ("part", step))

    def test_at_the_top_of_the_list_and_beyond(self):
        for heap in ([2], [2, 2], [1, 1, 2], [0, 0, 0, 9], [2] * 300):
            self.check_fits(heap, ("part", len(heap) - 1), True)
            for step in (len(heap), len(heap) + 1, len(heap) + 2):
                with self.subTest(steps=len(heap), step=step):
                    self.check_refused(heap, ("part", step))


class Fitting(Asked):
    def test_far_steps(self):
        for heap in ([], [1], [2], [2, 2], [1, 0, 1], [MANY] * 300):
            for step in (300, 301, 1000, 10 ** 9, 2 ** 63 - 1, 2 ** 63, FAR - 1, FAR):
                for kind in ("join", "part"):
                    with self.subTest(steps=len(heap), kind=kind, step=step):
                        self.check_refused(heap, (kind, step))

    def test_what_is_no_move_fits_nowhere(self):
        for heap in ([], [2, 2], [2, 2, 2, 2], [MANY] * 300):
            for move in (("jump", 0), ("", 0), ("Join", 0), ("parts", 1), ("join", -1), ("part", -1), ("part", -2)):
                with self.subTest(steps=len(heap), move=move):
                    self.check_refused(heap, move)

    def test_written_lists(self):
        for heap, told in (
            ([], []),
            ([1], []),
            ([2], [("part", 0)]),
            ([1, 1], [("join", 0)]),
            ([2, 1], [("join", 0), ("part", 0)]),
            ([1, 2], [("join", 0), ("part", 1)]),
            ([2, 2], [("join", 0), ("part", 0), ("part", 1)]),
            ([2, 0, 2], [("part", 0), ("part", 2)]),
            ([2, 2, 1], [("join", 0), ("part", 0), ("join", 1), ("part", 1)]),
            ([0, 1, 1, 0, 3], [("join", 1), ("part", 4)]),
            ([1, 0, 1, 0, 0, 1], []),
        ):
            with self.subTest(heap=heap):
                self.assertEqual(self.unchanged(moves, heap), told)

    def test_long_list(self):
        told = [(kind, step) for step in range(300) for kind in ("join", "part")]
        told.remove(("join", 299))
        self.assertEqual(self.unchanged(moves, [MANY] * 300), told)

    def check_all(self, heap):
        every = [(kind, step) for step in range(len(heap) + 3) for kind in ("join", "part")]
        fitting = [move for move in every if fits_by_shells(heap, move)]
        told = self.unchanged(moves, heap)
        self.assertEqual(told, fitting, heap)
        self.assertEqual(not told, is_still(heap), heap)
        for move in told:
            self.assertEqual((type(told), type(move), type(move[0]), type(move[1])), (list, tuple, str, int))
        for move in every:
            if move in fitting:
                self.check_done(heap, move, done_by_shells(heap, move))
            else:
                self.check_refused(heap, move)

    def test_small_heaps(self):
        for heap in small_heaps(5, 3):
            self.check_all(heap)

    def test_chance_heaps(self):
        chance = random.Random(6)
        for shells in (1, 2, 5, 20, 60, 100):
            for top in (0, 1, 5, 40):
                self.check_all(chance_heap(chance, shells, top))

    def test_shells_left_by_a_move(self):
        for heap in small_heaps(5, 3):
            for move in moves(heap):
                fewer = 1 if move[0] == "join" or move == ("part", 0) else 0
                self.assertEqual(sum(done(heap, move)), sum(heap) - fewer, (heap, move))


class Carried(Asked):
    def carry(self, heap, *picks):
        """Carries, and checks the log move by move against the document."""
        told = self.unchanged(carried, heap, *picks)
        self.assertIs(type(told), tuple)
        end, log = told
        self.check_heap(end)
        self.assertIs(type(log), list)
        chosen = picks[0] if picks else None
        here = list(heap)
        for number, move in enumerate(log):
            fitting = moves(here)
            pick = chosen[number % len(chosen)] if chosen else 0
            self.assertEqual(move, fitting[pick % len(fitting)], (heap, picks, number))
            here = done_by_shells(here, move)
        self.assertEqual(end, here)
        self.assertTrue(is_still(end))
        self.assertEqual(weight(end), weight(heap))
        self.assertLessEqual(len(log), bound(heap))
        self.assertLessEqual(sum(end), sum(heap))
        return told

    def test_written(self):
        for heap, picks, end, log in (
            ([2], None, [0, 1], [("part", 0)]),
            ([1, 1], None, [0, 0, 1], [("join", 0)]),
            ([2, 1], None, [1, 0, 1], [("join", 0)]),
            ([2, 1], [1], [1, 0, 1], [("part", 0), ("part", 1)]),
            ([2, 1], [2], [1, 0, 1], [("join", 0)]),
            ([4], None, [1, 0, 1], [("part", 0), ("join", 0)]),
            ([4], [1], [1, 0, 1], [("part", 0), ("part", 0), ("part", 1)]),
            ([4], [1, 3, 0], [1, 0, 1], [("part", 0), ("part", 0), ("part", 1)]),
            ([4], [1, 2], [1, 0, 1], [("part", 0), ("join", 0)]),
            ([5], [0, 1], [0, 0, 0, 1], [("part", 0), ("part", 0), ("join", 0), ("join", 1)]),
        ):
            with self.subTest(heap=heap, picks=picks):
                self.assertEqual(self.carry(heap, picks), (end, log))

    def test_without_picks(self):
        for heap in ([], [1], [2, 1], [4, 4, 4], [0, 0, 100], [0] * 40 + [100]):
            with self.subTest(heap=heap):
                first = self.carry(heap)
                self.assertEqual(self.carry(heap, None), first)
                self.assertEqual(self.carry(heap, []), first)
                self.assertEqual(self.carry(heap, [0]), first)
                self.assertEqual(self.carry(heap, [0, 0, 0]), first)

    def test_still_already(self):
        for heap in ([], [1], [0, 1], [1, 0, 1], [0, 0, 1, 0, 0, 1], [1, 0] * 20 + [1]):
            for picks in ((), (None,), ([],), ([3],), ([1, 2, MANY],)):
                with self.subTest(heap=heap, picks=picks):
                    end, log = self.carry(heap, *picks)
                    self.assertEqual((end, log), (heap, []))
                    self.assertIsNot(end, heap)

    def test_one_end_by_every_way(self):
        ends = {}

        def end_of(heap):
            """The one end of all ways on from here, and the length of the longest one."""
            key = tuple(heap)
            if key not in ends:
                behind = [end_of(done(heap, move)) for move in moves(heap)]
                found = {end for end, length in behind} or {key}
                self.assertEqual(len(found), 1, heap)
                ends[key] = (found.pop(), max((length + 1 for end, length in behind), default=0))
                self.assertLessEqual(ends[key][1], bound(heap), heap)
            return ends[key]

        of_weight = {}
        for heap in small_heaps(5, 3):
            end = end_of(heap)[0]
            self.assertEqual(of_weight.setdefault(weight(heap), end), end, heap)
            self.assertEqual(self.carry(heap)[0], list(end))

    def test_one_end_by_different_picks(self):
        chance = random.Random(10)
        for shells, top in ((1, 40), (2, 0), (7, 3), (30, 12), (100, 0), (100, 1), (100, 5), (100, 40)):
            heap = chance_heap(chance, shells, top)
            many = [chance.randint(0, MANY) for pick in range(chance.randint(2, 50))]
            ends = [self.carry(heap, picks)[0] for picks in (None, [1], [MANY], [MANY - 1, 0], [0, 1, 2, 3, 4], many)]
            for end in ends:
                self.assertEqual(end, ends[0], heap)

    def test_100_shells_on_one_step(self):
        # A pick that chooses the last one of however many moves fit, up to 100.
        last = math.lcm(*range(1, 101)) - 1
        self.assertLess(last, MANY)
        for step in (0, 1, 2, 3, 20, 39, 40):
            heap = [0] * step + [100]
            ends = [self.carry(heap, picks)[0] for picks in ([], [1], [last], [MANY, 7])]
            for end in ends:
                self.assertEqual(end, ends[0])
            self.assertEqual(weight(ends[0]), 100 * worth(step))

    def test_every_step_up_to_40_with_shells(self):
        heap = [2] * 41
        end = self.carry(heap)[0]
        self.assertEqual(self.carry(heap, [5, 3, 8])[0], end)
        self.assertEqual(self.carry([3] + [2] * 39 + [18], [MANY])[0], self.carry([3] + [2] * 39 + [18])[0])

    def test_the_picks_begin_anew_behind_the_last(self):
        heap = [9, 9, 9, 9]
        for picks in ([1, 2, 3], [3, 0], [5, 4, 3, 2, 1, 0]):
            once = self.carry(heap, picks)
            self.assertEqual(self.carry(heap, picks * 3), once)
            self.assertGreater(len(once[1]), len(picks))

    def test_more_picks_than_moves(self):
        self.assertEqual(self.carry([2, 1], [1, 0, 5, 6, 7, 8])[1], [("part", 0), ("part", 1)])


class OwnLists(Asked):
    def test_moves(self):
        heap = [2, 2]
        told = moves(heap)
        kept = list(told)
        told.clear()
        self.assertEqual(moves(heap), kept)
        self.assertIsNot(moves([]), moves([]))

    def test_done(self):
        heap = [2, 2]
        told = done(heap, ("join", 0))
        heap[0] = 7
        self.assertEqual(told, [1, 1, 1])
        told.append(9)
        self.assertEqual(done([2, 2], ("join", 0)), [1, 1, 1])
        self.assertEqual(heap, [7, 2])

    def test_carried(self):
        for heap in ([], [1], [1, 0, 1], [4, 4]):
            picks = [1]
            end, log = carried(heap, picks)
            kept = (list(end), list(log))
            asked = list(heap)
            end.append(5)
            log.append(("join", 0))
            picks.append(2)
            self.assertEqual(heap, asked)
            self.assertEqual(carried(heap, [1]), kept)
            heap.append(1)
            self.assertEqual((end[:-1], log[:-1]), kept)


if __name__ == "__main__":
    unittest.main()
