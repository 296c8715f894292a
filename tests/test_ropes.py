"""Points 1 to 6 and the interface: how a rope stands, what is let on, how long it stands, when it comes again."""

import copy
import unittest

from ropecabins import errors
from ropecabins.ropes import after, let_on, rate, settled, stood
from tests.plain import PlainPast, some_ropes

GREAT = 10 ** 30
TOO_GREAT_TO_SHOW = 10 ** 6000

# Each of these was worked out by hand: stations, space, cabins, and then how it stands behind 0, 1, 2 .. ticks, how
# many were let on until then at each station, and in how many ticks the rope stood until then.
ONE_STATION = ([(3, 1, 2)], 2, [2]), [
    (([[0, 0]], [[]], [[2]]), [0], 0),
    (([[1, 1]], [[]], [[2]]), [0], 0),
    (([[1]], [[1]], [[1]]), [1], 0),
    (([[1]], [[2]], [[2]]), [1], 0),
    (([[0]], [[1]], [[1]]), [2], 0),
    (([[1]], [[2]], [[2]]), [2], 0),
    (([[0]], [[1]], [[1]]), [3], 0),
]
RIDES_OF_ONE = ([(1, 0, 1), (1, 0, 1)], 1, [1, 0]), [
    (([[0], []], [[], []], [[1], [1]]), [0, 0], 0),
    (([[], [0]], [[], []], [[1], [1]]), [1, 0], 0),
    (([[0], []], [[], []], [[1], [1]]), [1, 1], 0),
    (([[], [0]], [[], []], [[1], [1]]), [2, 1], 0),
]
BOTH_AT_ONCE = ([(1, 0, 1), (1, 0, 1)], 1, [1, 1]), [
    (([[0], [0]], [[], []], [[1], [1]]), [0, 0], 0),
    (([[0], [0]], [[], []], [[1], [1]]), [1, 1], 0),
    (([[0], [0]], [[], []], [[1], [1]]), [2, 2], 0),
]
# The row of station 1 is full in ticks 2 and 3, so the rope stands; it is free in tick 4, and stands again in tick 7.
FULL_ROW = ([(2, 0, 1), (2, 3, 1)], 1, [1, 1]), [
    (([[0], [0]], [[], []], [[1], [1]]), [0, 0], 0),
    (([[], [1]], [[1], []], [[1], [1]]), [1, 0], 0),
    (([[], [2]], [[1], []], [[1], [1]]), [1, 0], 1),
    (([[], [3]], [[1], []], [[1], [1]]), [1, 0], 2),
    (([[], [0]], [[], [1]], [[1], [1]]), [1, 1], 2),
    (([[0], [1]], [[], []], [[1], [1]]), [1, 1], 2),
    (([[], [2]], [[1], []], [[1], [1]]), [2, 1], 2),
    (([[], [3]], [[1], []], [[1], [1]]), [2, 1], 3),
    (([[], [0]], [[], [1]], [[1], [1]]), [2, 2], 3),
]
# Station 2 lets on in ticks 2 and 11, in which the rope stands: the cabin hangs at place 0 then.
LET_ON_WHILE_IT_STANDS = ([(2, 0, 1), (2, 3, 1), (3, 1, 2)], 1, [1, 1, 1]), [
    (([[0], [0], [0]], [[], [], []], [[1], [1], [1]]), [0, 0, 0], 0),
    (([[], [1], [1]], [[1], [], []], [[1], [1], [1]]), [1, 0, 0], 0),
    (([[], [2], []], [[1], [], [0]], [[1], [1], [0]]), [1, 0, 1], 1),
    (([[], [3], []], [[1], [], [0]], [[1], [1], [0]]), [1, 0, 1], 2),
    (([[], [0], []], [[], [1], [1]], [[1], [1], [1]]), [1, 1, 1], 2),
    (([[], [1], [0]], [[], [], [2]], [[1], [1], [1]]), [1, 1, 1], 2),
    (([[0], [2], [1]], [[], [], []], [[1], [1], [1]]), [1, 1, 1], 2),
    (([[], [3], []], [[1], [], [1]], [[1], [1], [1]]), [2, 1, 2], 2),
    (([[], [0], []], [[], [1], [2]], [[1], [1], [1]]), [2, 2, 2], 2),
    (([[0], [1], [0]], [[], [], []], [[1], [1], [1]]), [2, 2, 2], 2),
    (([[], [2], [1]], [[1], [], []], [[1], [1], [1]]), [3, 2, 2], 2),
    (([[], [3], []], [[1], [], [0]], [[1], [1], [0]]), [3, 2, 3], 3),
]
# The space is more than the ride: the second cabin waits until the first one has long been taken off.
SPACE_OF_NINE = ([(4, 0, 2)], 9, [2]), [
    (([[0, 0]], [[]], [[9]]), [0], 0),
    (([[0]], [[1]], [[1]]), [1], 0),
    (([[0]], [[2]], [[2]]), [1], 0),
    (([[0]], [[3]], [[3]]), [1], 0),
    (([[0, 0]], [[]], [[4]]), [1], 0),
    (([[0, 0]], [[]], [[5]]), [1], 0),
    (([[0, 0]], [[]], [[6]]), [1], 0),
    (([[0, 0]], [[]], [[7]]), [1], 0),
    (([[0, 0]], [[]], [[8]]), [1], 0),
    (([[0, 0]], [[]], [[9]]), [1], 0),
    (([[0]], [[1]], [[1]]), [2], 0),
]
STAY_OF_TWENTY = ([(1, 20, 1)], 1, [1]), [(([[many]], [[]], [[1]]), [0], 0) for many in range(21)] + [
    (([[0]], [[]], [[1]]), [1], 0),
    (([[1]], [[]], [[1]]), [1], 0),
]
NO_CABIN = ([(5, 2, 3), (1, 0, 1)], 4, [0, 0]), [(([[], []], [[], []], [[4], [4]]), [0, 0], 0)] * 3
# Those that wait for the space have waited longer than the stay; the rope has gone further than the space.
MORE_THAN_IS_TOLD = ([(9, 2, 3)], 3, [3]), [
    (([[0, 0, 0]], [[]], [[3]]), [0], 0),
    (([[1, 1, 1]], [[]], [[3]]), [0], 0),
    (([[2, 2, 2]], [[]], [[3]]), [0], 0),
    (([[2, 2]], [[1]], [[1]]), [1], 0),
    (([[2, 2]], [[2]], [[2]]), [1], 0),
    (([[2, 2]], [[3]], [[3]]), [1], 0),
    (([[2]], [[4, 1]], [[1]]), [2], 0),
    (([[2]], [[5, 2]], [[2]]), [2], 0),
    (([[2]], [[6, 3]], [[3]]), [2], 0),
    (([[]], [[7, 4, 1]], [[1]]), [3], 0),
    (([[]], [[8, 5, 2]], [[2]]), [3], 0),
    (([[0]], [[6, 3]], [[3]]), [3], 0),
    (([[1]], [[7, 4]], [[3]]), [3], 0),
    (([[2]], [[8, 5]], [[3]]), [3], 0),
    (([[0]], [[6, 1]], [[1]]), [4], 0),
]
BY_HAND = (
    ONE_STATION, RIDES_OF_ONE, BOTH_AT_ONCE, FULL_ROW, LET_ON_WHILE_IT_STANDS, SPACE_OF_NINE, STAY_OF_TWENTY, NO_CABIN,
    MORE_THAN_IS_TOLD,
)
# From when on it stands as it will again, how often it does so, and the rate.
SETTLED_BY_HAND = (
    (ONE_STATION, (3, 2), (1, 2)), (RIDES_OF_ONE, (0, 2), (1, 2)), (BOTH_AT_ONCE, (0, 1), (1, 1)),
    (FULL_ROW, (2, 4), (1, 4)), (LET_ON_WHILE_IT_STANDS, (3, 8), (1, 4)), (SPACE_OF_NINE, (0, 9), (1, 9)),
    (STAY_OF_TWENTY, (0, 21), (1, 21)), (NO_CABIN, (0, 1), (0, 1)),
)
# More ticks than there are marks of how it stood before.
LONG = ([(15, 20, 3), (2, 9, 4), (22, 10, 9)], 2, [3, 4, 9])
ALL_FIVE = (
    lambda rope: after(*rope, 5), lambda rope: let_on(*rope, 5), lambda rope: stood(*rope, 5),
    lambda rope: settled(*rope), lambda rope: rate(*rope),
)


class ByHandTest(unittest.TestCase):
    def test_how_it_stands(self):
        for rope, story in BY_HAND:
            for ticks, (stands, let, still) in enumerate(story):
                with self.subTest(rope=rope, ticks=ticks):
                    self.assertEqual(after(*rope, ticks), stands)

    def test_how_many_were_let_on(self):
        for rope, story in BY_HAND:
            for ticks, (stands, let, still) in enumerate(story):
                with self.subTest(rope=rope, ticks=ticks):
                    self.assertEqual(let_on(*rope, ticks), let)

    def test_in_how_many_the_rope_stood(self):
        for rope, story in BY_HAND:
            for ticks, (stands, let, still) in enumerate(story):
                with self.subTest(rope=rope, ticks=ticks):
                    self.assertEqual(stood(*rope, ticks), still)

    def test_when_it_is_settled_and_the_rate(self):
        for (rope, story), when, often in SETTLED_BY_HAND:
            with self.subTest(rope=rope):
                self.assertEqual(settled(*rope), when)
                self.assertEqual(rate(*rope), often)

    def test_kinds_of_what_is_told(self):
        for rope, story in BY_HAND:
            stands = after(*rope, 3)
            self.assertIs(stands.__class__, tuple)
            self.assertEqual(len(stands), 3)
            for part in stands:
                self.assertIs(part.__class__, list)
                self.assertEqual(len(part), len(rope[0]))
                for one in part:
                    self.assertIs(one.__class__, list)
                    self.assertTrue(all(number.__class__ is int for number in one))
            self.assertIs(let_on(*rope, 3).__class__, list)
            self.assertIs(stood(*rope, 3).__class__, int)
            self.assertIs(settled(*rope).__class__, tuple)
            self.assertIs(rate(*rope).__class__, tuple)


class BoundsTest(unittest.TestCase):
    def test_waits_and_gone_are_told_up_to_the_stay_and_the_space(self):
        stations = [(20, 20, 1)]
        self.assertEqual(after(stations, 2, [1], 20), ([[20]], [[]], [[2]]))
        self.assertEqual(after(stations, 2, [1], 21), ([[]], [[1]], [[1]]))
        self.assertEqual(after(stations, 2, [1], 30), ([[]], [[10]], [[2]]))
        self.assertEqual(after(stations, 2, [1], 40), ([[0]], [[]], [[2]]))

    def test_the_greatest_and_least_of_all(self):
        stations = [(30, 20, 9)] * 4
        self.assertEqual(after(stations, 9, [9] * 4, 20), ([[20] * 9] * 4, [[]] * 4, [[9]] * 4))
        self.assertEqual(after(stations, 9, [9] * 4, 21), ([[20] * 8] * 4, [[1]] * 4, [[1]] * 4))
        self.assertEqual(after(stations, 9, [9] * 4, 30), ([[20] * 7] * 4, [[10, 1]] * 4, [[1]] * 4))
        self.assertEqual(let_on([(1, 0, 1)], 1, [1], 7), [7])
        self.assertEqual(settled([(1, 0, 1)], 1, [1]), (0, 1))
        self.assertEqual(rate([(1, 0, 1)], 1, [1]), (1, 1))

    def test_nothing_comes_in_no_ticks(self):
        for rope, story in BY_HAND:
            stations, space, cabins = rope
            stands = [[0] * many for many in cabins], [[] for many in cabins], [[space] for many in cabins]
            self.assertEqual(after(*rope, 0), stands)
            self.assertEqual(let_on(*rope, 0), [0] * len(cabins))
            self.assertEqual(stood(*rope, 0), 0)

    def test_a_rope_without_cabins_never_stands(self):
        for many in range(1, 5):
            rope = [(30, 20, 9)] * many, 9, [0] * many
            for ticks in (0, 1, 50, GREAT):
                self.assertEqual(after(*rope, ticks), ([[]] * many, [[]] * many, [[9]] * many))
                self.assertEqual(let_on(*rope, ticks), [0] * many)
                self.assertEqual(stood(*rope, ticks), 0)
            self.assertEqual(settled(*rope), (0, 1))
            self.assertEqual(rate(*rope), (0, 1))

    def test_one_station_in_the_way_and_the_whole_rope_stands(self):
        # The row of station 0 is in the way from tick 9 to tick 20, in 21 its cabin is let on.
        rope = [(9, 20, 1), (2, 0, 1), (9, 0, 1)], 1, [1, 1, 1]
        for ticks in range(8, 21):
            self.assertEqual(after(*rope, ticks), ([[ticks], [], []], [[], [], [8, 6]], [[1], [1], [1]]))
            self.assertEqual(stood(*rope, ticks), ticks - 8)
        self.assertEqual(after(*rope, 21), ([[0], [], []], [[1], [], [7]], [[1], [1], [1]]))
        self.assertEqual(stood(*rope, 21), 12)


class ManyTicksTest(unittest.TestCase):
    def test_great_counts_by_hand(self):
        rope, story = FULL_ROW
        quarter = GREAT // 4
        self.assertEqual(after(*rope, GREAT), story[4][0])
        self.assertEqual(let_on(*rope, GREAT), [quarter, quarter])
        self.assertEqual(stood(*rope, GREAT), quarter + 1)
        self.assertEqual(let_on(*ONE_STATION[0], GREAT), [GREAT // 2])
        self.assertEqual(let_on(*BOTH_AT_ONCE[0], GREAT), [GREAT, GREAT])
        self.assertEqual(let_on(*STAY_OF_TWENTY[0], 21 * GREAT + 20), [GREAT])
        self.assertEqual(let_on(*STAY_OF_TWENTY[0], 21 * GREAT + 21), [GREAT + 1])

    def test_great_counts_agree_with_those_a_round_before(self):
        for (rope, story), (start, length), often in SETTLED_BY_HAND:
            let = [b - a for a, b in zip(let_on(*rope, start), let_on(*rope, start + length))]
            still = stood(*rope, start + length) - stood(*rope, start)
            for rounds in (1, 2, 1000, GREAT, GREAT ** 3, TOO_GREAT_TO_SHOW):
                for early in range(start, start + length):
                    late = early + rounds * length
                    self.assertEqual(after(*rope, late), after(*rope, early))
                    self.assertTrue(
                        let_on(*rope, late) == [now + rounds * more for now, more in zip(let_on(*rope, early), let)]
                    )
                    self.assertTrue(stood(*rope, late) == stood(*rope, early) + rounds * still)

    def test_what_comes_behind_more_ticks_than_there_are_marks(self):
        past = PlainPast(*LONG)
        self.assertEqual((past.start, past.length), (3108, 2459))
        self.assertEqual(settled(*LONG), (3108, 2459))
        many = past.let[-1][0] - past.let[past.start][0]
        self.assertEqual([many * rate(*LONG)[1], past.length % rate(*LONG)[1]], [past.length * rate(*LONG)[0], 0])
        for ticks in (999, 1000, 1001, 1002, 2001, 2003, 3107, 3108, 3109, 5566, 5567, 5568, 9999, GREAT, GREAT + 1):
            with self.subTest(ticks=ticks):
                self.assertEqual((after(*LONG, ticks), let_on(*LONG, ticks), stood(*LONG, ticks)), past.at(ticks))

    def test_ropes_of_all_sizes_agree_with_the_plain_rope(self):
        for rope in some_ropes(1, 150):
            past = PlainPast(*rope)
            end = past.start + past.length
            with self.subTest(rope=rope):
                self.assertEqual(settled(*rope), (past.start, past.length))
                for ticks in (1, past.start, past.start + 1, end - 1, end, end + 1, 77, GREAT, GREAT + 1, 3 * GREAT):
                    told = after(*rope, ticks), let_on(*rope, ticks), stood(*rope, ticks)
                    self.assertEqual(told, past.at(ticks))

    def test_rates_agree_with_the_plain_rope_and_are_in_lowest_terms(self):
        for rope in some_ropes(2, 100):
            past = PlainPast(*rope)
            let = [b - a for a, b in zip(past.let[past.start], past.let[-1])]
            many, ticks = rate(*rope)
            with self.subTest(rope=rope):
                self.assertEqual([many * past.length] * len(let), [ticks * one for one in let])
                self.assertEqual([k for k in range(2, ticks + 1) if many % k == 0 and ticks % k == 0], [])
                self.assertGreaterEqual(ticks, 1)


GOOD = ([(5, 2, 3), (1, 0, 1)], 4, [3, 0])
BAD_STATIONS = (
    None, True, 5, "ab", (), [], ((5, 2, 3), (1, 0, 1)), [(5, 2, 3)] * 5, [(5, 2, 3), (0, 0, 1)],
    [(5, 2, 3), (31, 0, 1)], [(5, 2, 3), (1, -1, 1)], [(5, 2, 3), (1, 21, 1)], [(5, 2, 3), (1, 0, 0)],
    [(5, 2, 10), (1, 0, 1)],
    [(5, 2, 3), (1, 0)], [(5, 2, 3), (1, 0, 1, 1)], [(5, 2, 3), [1, 0, 1]], [(5, 2, 3), (True, 0, 1)],
    [(5, 2, 3), (1, False, 1)], [(5, 2, 3), (1, 0, True)], [(5, 2, 3), (1, None, 1)], {(5, 2, 3): 1},
    [(TOO_GREAT_TO_SHOW, 0, 1)],
)
BAD_SPACES = (None, True, False, 0, 10, -1, GREAT, TOO_GREAT_TO_SHOW, "4", [4], (4,), {4}, b"4")
BAD_CABINS = (
    None, True, 3, "30", (3, 0), [], [3], [3, 0, 0], [4, 0], [3, 2], [-1, 0], [3, -1], [True, 0], [3, False], [3, None],
    [3, "0"], {0: 3, 1: 0}, [3, TOO_GREAT_TO_SHOW], [[3], [0]],
)
BAD_TICKS = (None, True, False, -1, -GREAT, -TOO_GREAT_TO_SHOW, "1", [1], (1,), {}, b"1")
WITH_TICKS = (after, let_on, stood)
WITHOUT_TICKS = (settled, rate)


class RefusalsTest(unittest.TestCase):
    def refused(self, kind, told, *handed):
        with self.assertRaises(errors.RopeError) as caught:
            told(*handed)
        self.assertIs(caught.exception.__class__, kind)

    def refused_by_all(self, kind, stations, space, cabins):
        for told in WITH_TICKS:
            # What is told first is refused first, whatever the ticks are.
            for ticks in (0, 3, -1, None):
                self.refused(kind, told, stations, space, cabins, ticks)
        for told in WITHOUT_TICKS:
            self.refused(kind, told, stations, space, cabins)

    def test_stations_come_first(self):
        for stations in BAD_STATIONS:
            for space in (4, 0, None):
                for cabins in ([3, 0], [9, 9], None):
                    self.refused_by_all(errors.BadStations, stations, space, cabins)

    def test_then_the_space(self):
        for space in BAD_SPACES:
            for cabins in ([3, 0], [9, 9], None):
                self.refused_by_all(errors.BadSpace, GOOD[0], space, cabins)

    def test_then_the_cabins(self):
        for cabins in BAD_CABINS:
            self.refused_by_all(errors.BadCabins, GOOD[0], GOOD[1], cabins)

    def test_then_the_ticks(self):
        for ticks in BAD_TICKS:
            for told in WITH_TICKS:
                self.refused(errors.BadTicks, told, *GOOD, ticks)

    def test_what_is_just_within_is_taken(self):
        for stations, space, cabins in (
            ([(1, 0, 1)], 1, [0]), ([(1, 0, 1)], 1, [1]),
            ([(30, 20, 9)] * 4, 9, [9] * 4), ([(30, 20, 9)] * 4, 1, [0] * 4),
        ):
            for told in WITH_TICKS:
                told(stations, space, cabins, 0)
                told(stations, space, cabins, 40)
            for told in WITHOUT_TICKS:
                told(stations, space, cabins)

    def test_nothing_is_changed_by_a_refusal(self):
        stations, cabins = [(5, 2, 3), (1, 0, 99)], [3, 0, 1]
        for told in WITHOUT_TICKS:
            self.refused(errors.BadStations, told, stations, 4, cabins)
        self.assertEqual((stations, cabins), ([(5, 2, 3), (1, 0, 99)], [3, 0, 1]))


class NewnessTest(unittest.TestCase):
    def test_what_is_handed_in_stays_as_it_was(self):
        for rope, story in BY_HAND:
            handed = copy.deepcopy(rope)
            for told in ALL_FIVE:
                told(handed)
                self.assertEqual(handed, rope)

    def test_the_same_lists_changed_in_place_are_told_anew(self):
        stations, cabins = [(3, 1, 2)], [2]
        self.assertEqual(settled(stations, 2, cabins), (3, 2))
        self.assertEqual(let_on(stations, 2, cabins, 21), [10])
        cabins[0] = 1
        self.assertEqual(rate(stations, 2, cabins), (1, 4))
        stations[0] = (1, 20, 1)
        self.assertEqual(settled(stations, 2, cabins), (1, 21))
        self.assertEqual(let_on(stations, 2, cabins, 21), [1])
        stations.append((1, 20, 1))
        cabins.append(0)
        self.assertEqual(let_on(stations, 2, cabins, 42), [1, 1])
        self.assertEqual(after(stations, 2, cabins, 5), ([[5], []], [[], []], [[2], [2]]))

    def test_what_was_told_may_be_changed(self):
        for rope, story in BY_HAND:
            first = after(*rope, 2)
            for part in first:
                for one in part:
                    one.append(99)
                part.append([99])
            let_on(*rope, 2).append(99)
            self.assertEqual(after(*rope, 2), story[2][0])
            self.assertEqual(let_on(*rope, 2), story[2][1])

    def test_no_two_lists_of_what_is_told_are_the_same_one(self):
        told = after([(3, 1, 2)] * 4, 2, [0] * 4, 0)
        parts = [id(part) for part in told] + [id(one) for part in told for one in part]
        self.assertEqual(len(set(parts)), 15)


if __name__ == "__main__":
    unittest.main()
