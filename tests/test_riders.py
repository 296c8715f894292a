"""Point 7 and the interface: when a rider is let on, and when it is taken off."""

import copy
import unittest

from ropecabins import errors
from ropecabins.motion import Motion, Rope
from ropecabins.riders import goes_on, ride
from tests.plain import PlainPast, PlainRope, some_ropes

GREAT = 10 ** 30
TOO_GREAT_TO_SHOW = 10 ** 6000

# Worked out by hand, tick by tick, in tests/test_ropes.py.
ONE_STATION = [(3, 1, 2)], 2, [2]
RIDES_OF_ONE = [(1, 0, 1), (1, 0, 1)], 1, [1, 0]
FULL_ROW = [(2, 0, 1), (2, 3, 1)], 1, [1, 1]
THREE = [(2, 0, 1), (2, 3, 1), (3, 1, 2)], 1, [1, 1, 1]


class ByHandTest(unittest.TestCase):
    def rides(self, rope, cases):
        for (ticks, one, other), told in cases:
            with self.subTest(rope=rope, ticks=ticks, one=one, other=other):
                self.assertEqual(ride(*rope, ticks, one, other), told)

    def test_one_station(self):
        self.rides(ONE_STATION, (
            ((0, 0, 0), (2, 4)), ((1, 0, 0), (2, 4)), ((2, 0, 0), (4, 6)), ((3, 0, 0), (4, 6)), ((4, 0, 0), (6, 8)),
        ))

    def test_let_on_and_taken_off_in_one_tick(self):
        self.rides(RIDES_OF_ONE, (
            ((0, 0, 1), (1, 1)), ((0, 0, 0), (1, 2)), ((0, 1, 0), (2, 2)), ((0, 1, 1), (2, 3)),
            ((1, 0, 1), (3, 3)), ((1, 0, 0), (3, 4)), ((1, 1, 0), (2, 2)), ((2, 1, 0), (4, 4)),
        ))

    def test_a_rope_that_stands_on_the_way(self):
        self.rides(FULL_ROW, (
            ((0, 0, 1), (1, 4)), ((0, 1, 0), (4, 5)), ((1, 0, 1), (6, 8)), ((0, 0, 0), (1, 9)), ((0, 1, 1), (4, 8)),
        ))

    def test_each_pair_of_three_stations_from_the_beginning(self):
        self.rides(THREE, (
            ((0, 0, 1), (1, 4)), ((0, 0, 2), (1, 9)), ((0, 0, 0), (1, 14)),
            ((0, 1, 2), (4, 5)), ((0, 1, 0), (4, 9)), ((0, 1, 1), (4, 12)),
            ((0, 2, 0), (2, 6)), ((0, 2, 1), (2, 8)), ((0, 2, 2), (2, 13)),
        ))

    def test_behind_some_ticks(self):
        self.rides(THREE, (
            ((1, 0, 1), (7, 8)), ((3, 0, 1), (7, 8)), ((6, 0, 1), (7, 8)), ((7, 0, 1), (10, 12)),
            ((3, 0, 2), (7, 13)), ((1, 2, 0), (2, 6)), ((2, 2, 0), (7, 9)), ((3, 1, 2), (4, 5)), ((4, 1, 2), (8, 9)),
        ))

    def test_behind_very_many_ticks(self):
        # From 3 ticks on all comes again each 8 ticks.
        for rounds in (1, 2, GREAT, GREAT ** 3, TOO_GREAT_TO_SHOW):
            more = 8 * rounds
            for (ticks, one, other), (on, off) in (
                ((3, 0, 1), (7, 8)), ((6, 0, 1), (7, 8)), ((7, 0, 1), (10, 12)), ((3, 0, 2), (7, 13)),
                ((4, 1, 2), (8, 9)), ((3, 1, 0), (4, 9)), ((3, 1, 1), (4, 12)),
            ):
                self.assertTrue(ride(*THREE, ticks + more, one, other) == (on + more, off + more))

    def test_the_longest_stay(self):
        self.assertEqual(ride([(1, 20, 1)], 1, [1], 0, 0, 0), (21, 21))
        self.assertEqual(ride([(1, 20, 1)], 1, [1], 20, 0, 0), (21, 21))
        self.assertEqual(ride([(1, 20, 1)], 1, [1], 21, 0, 0), (42, 42))
        self.assertEqual(ride([(30, 20, 9)] * 4, 9, [1, 0, 0, 0], 0, 0, 0), (21, 200))
        self.assertEqual(ride([(30, 20, 9)] * 4, 9, [1, 0, 0, 0], 0, 3, 0), (171, 200))

    def test_the_kind_of_what_is_told(self):
        told = ride(*THREE, 0, 0, 1)
        self.assertIs(told.__class__, tuple)
        self.assertTrue(all(number.__class__ is int for number in told))


class NeverTest(unittest.TestCase):
    def test_none_where_none_is_ever_let_on(self):
        for many in range(1, 5):
            for ticks in (0, 1, 100, GREAT):
                for one in range(many):
                    for other in range(many):
                        self.assertIsNone(ride([(3, 2, 1)] * many, 2, [0] * many, ticks, one, other))

    def test_what_can_be_told_of_a_rope_that_stands_for_ever(self):
        # A cabin put in by hand bars the rope: its row is full, and none may be let on before the rope goes on.
        motion = Motion(Rope([(2, 0, 2), (9, 0, 1)], 3))
        motion.put(0)
        motion.put(1)
        self.assertTrue(goes_on(motion))
        motion.put(1)
        before = motion.state(), list(motion.let), motion.still
        self.assertEqual(before[1:], ([1, 1], 0))
        for k in range(3):
            self.assertFalse(goes_on(motion))
        self.assertEqual((motion.state(), motion.let, motion.still), (before[0], [1, 1], 3))

    def test_what_comes_again_at_once_still_goes_on(self):
        motion = Motion(Rope([(1, 0, 1)], 1))
        self.assertFalse(goes_on(motion))
        motion.put(0)
        self.assertTrue(goes_on(motion))
        self.assertTrue(goes_on(motion))

    def test_a_rope_with_a_cabin_never_stands_for_ever(self):
        # So a rider comes to each station, from each one, if there is a cabin at all.
        for stations, space, cabins in some_ropes(3, 60):
            for one in range(len(stations)):
                for other in range(len(stations)):
                    told = ride(stations, space, cabins, 5, one, other)
                    self.assertEqual(told is None, sum(cabins) == 0)


class PlainTest(unittest.TestCase):
    def plain_ride(self, rope, ticks, one, other):
        """Follow the very cabin that the rider goes with."""
        while True:
            while len(rope.events) <= ticks:
                rope.tick()
            boarded = [cabin for kind, at, cabin in rope.events[ticks] if (kind, at) == ("on", one)]
            if boarded:
                break
            ticks += 1
        off = ticks
        while True:
            while len(rope.events) <= off:
                rope.tick()
            if any(kind == "off" and at == other and cabin is boarded[0] for kind, at, cabin in rope.events[off]):
                return ticks + 1, off + 1
            off += 1

    def test_rides_agree_with_the_plain_rope(self):
        for stations, space, cabins in some_ropes(4, 60):
            if not sum(cabins):
                continue
            rope = PlainRope(stations, space, cabins)
            past = PlainPast(stations, space, cabins)
            for one in range(len(stations)):
                for other in range(len(stations)):
                    for ticks in (0, 1, past.start, past.start + past.length // 2):
                        with self.subTest(rope=(stations, space, cabins), ticks=ticks, one=one, other=other):
                            told = self.plain_ride(rope, ticks, one, other)
                            self.assertEqual(ride(stations, space, cabins, ticks, one, other), told)
                    more = GREAT * past.length
                    late = ride(stations, space, cabins, ticks + more, one, other)
                    self.assertEqual(late, (told[0] + more, told[1] + more))


class RefusalsTest(unittest.TestCase):
    def refused(self, kind, *handed):
        with self.assertRaises(errors.RopeError) as caught:
            ride(*handed)
        self.assertIs(caught.exception.__class__, kind)

    def test_each_is_refused_in_its_turn(self):
        good = [(5, 2, 3), (1, 0, 1)], 4, [3, 0], 7, 0, 1
        bad = (
            (errors.BadStations, (None, [], [(5, 2, 3)] * 5, [(5, 2, 3), (1, 0, True)], ((5, 2, 3), (1, 0, 1)))),
            (errors.BadSpace, (None, 0, 10, True, "4", TOO_GREAT_TO_SHOW)),
            (errors.BadCabins, (None, [3], [3, 2], [4, 0], [-1, 0], (3, 0), [3, False])),
            (errors.BadTicks, (None, -1, True, False, "7", [7], -TOO_GREAT_TO_SHOW)),
            (errors.BadStation, (None, -1, 2, True, False, "0", [0], (0,), GREAT, TOO_GREAT_TO_SHOW)),
            (errors.BadStation, (None, -1, 2, True, False, "1", [1], (1,), GREAT, TOO_GREAT_TO_SHOW)),
        )
        for place, (kind, values) in enumerate(bad):
            for value in values:
                handed = list(good)
                handed[place] = value
                self.refused(kind, *handed)
                # Of two what is told first, so whatever comes behind may be bad, too.
                for later in range(place + 1, len(good)):
                    for other in bad[later][1]:
                        handed = list(good)
                        handed[place], handed[later] = value, other
                        self.refused(kind, *handed)

    def test_just_within(self):
        self.assertEqual(ride([(1, 0, 1)], 1, [1], 0, 0, 0), (1, 1))
        self.assertEqual(ride([(1, 0, 1)] * 4, 1, [1] * 4, 0, 3, 2), (1, 3))
        self.refused(errors.BadStation, [(1, 0, 1)] * 4, 1, [1] * 4, 0, 4, 2)
        self.refused(errors.BadStation, [(1, 0, 1)] * 4, 1, [1] * 4, 0, 3, 4)
        self.refused(errors.BadStation, [(1, 0, 1)], 1, [0], 0, 0, 1)


class NewnessTest(unittest.TestCase):
    def test_what_is_handed_in_stays_as_it_was_and_changes_are_seen(self):
        handed = copy.deepcopy(THREE)
        for ticks in (0, 5, GREAT):
            ride(*handed, ticks, 0, 2)
            self.assertEqual(handed, THREE)
        stations, space, cabins = handed
        self.assertEqual(ride(stations, space, cabins, 0, 1, 2), (4, 5))
        stations[1] = (7, 0, 1)
        self.assertEqual(ride(stations, space, cabins, 0, 1, 2), (1, 7))
        cabins[1] = 0
        self.assertEqual(ride(stations, space, cabins, 0, 1, 2), (3, 9))


if __name__ == "__main__":
    unittest.main()
