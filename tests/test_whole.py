"""Point 1 and the interface, over the whole program: refusals in their order, nothing changed or kept, all told new."""

import copy
import itertools
import unittest

from ropecabins import errors
from ropecabins.answers import Bars, Keeps, Right, Wrong
from ropecabins.plans import planned
from ropecabins.riders import ride
from ropecabins.ropes import after, let_on, rate, settled, stood
from ropecabins.runs import Run
from ropecabins.tales import judged
from tests.wrong import CABINS, COUNT, FORTY, FOUR, PLAN_TICKS, SPACE, STATION, STATIONS, TALE, TICKS, good_stations


def ran():
    """A run with a cabin in each row; the second one has room for no more."""
    run = Run(FOUR, 4)
    for at in range(4):
        run.put(at)
    return run


def go_on(ticks):
    return ran().go_on(ticks)


def stop(ticks):
    return ran().stop(ticks)


def put(station):
    run = ran()
    run.take(1)
    return run.put(station)


def take(station):
    return ran().take(station)


# Each with its arguments, in the order in which their refusals are told.
CALLS = (
    (after, (STATIONS, SPACE, CABINS, TICKS)), (let_on, (STATIONS, SPACE, CABINS, TICKS)),
    (stood, (STATIONS, SPACE, CABINS, TICKS)), (settled, (STATIONS, SPACE, CABINS)), (rate, (STATIONS, SPACE, CABINS)),
    (ride, (STATIONS, SPACE, CABINS, TICKS, STATION, STATION)), (planned, (STATIONS, SPACE, COUNT, PLAN_TICKS)),
    (Run, (STATIONS, SPACE)), (judged, (STATIONS, SPACE, TALE)),
    (go_on, (TICKS,)), (stop, (TICKS,)), (put, (STATION,)), (take, (STATION,)),
)


def snapshot(value):
    """What a value is made of, kinds told apart: True is no 1."""
    if isinstance(value, (list, tuple)):
        return value.__class__, tuple(snapshot(one) for one in value)
    if isinstance(value, dict):
        return dict, tuple((snapshot(key), snapshot(one)) for key, one in value.items())
    return value.__class__, frozenset(value) if isinstance(value, set) else value


def shown(told):
    """What is told, as something that can be compared."""
    if isinstance(told, Run):
        told.put(0)
        return told.go_on(100), told.stands(), told.passed(), told.stood(), told.tale()
    if isinstance(told, (Keeps, Bars, Right, Wrong)):
        return told.__class__.__name__, copy.deepcopy(vars(told))
    return copy.deepcopy(told)


def lists_within(told):
    """All lists of what is told, the innermost ones first."""
    if isinstance(told, (Keeps, Bars, Right, Wrong)):
        return lists_within(list(vars(told).values()))[:-1]
    if not isinstance(told, (list, tuple)):
        return []
    inner = [found for one in told for found in lists_within(one)]
    return inner + [told] if isinstance(told, list) else inner


class RefusalsTest(unittest.TestCase):
    def refused(self, error, call, handed):
        before = snapshot(handed)
        try:
            call(*handed)
        except errors.RopeError as caught:
            self.assertIs(caught.__class__, error, call)
        else:
            self.fail(f"{call.__name__} takes what is due to be refused with {error.__name__}")
        self.assertTrue(snapshot(handed) == before)

    def test_each_alone(self):
        for call, kinds in CALLS:
            for at, kind in enumerate(kinds):
                for bad in kind.bad:
                    handed = [other.good for other in kinds]
                    handed[at] = bad
                    self.refused(kind.error, call, handed)

    def test_of_two_what_is_told_first(self):
        for call, kinds in CALLS:
            for one, other in itertools.combinations(range(len(kinds)), 2):
                first, second = kinds[one].bad, kinds[other].bad
                pairs = [*itertools.product(first[::37], second[::3]), *itertools.product(first, second[::151])]
                for bad, worse in pairs:
                    handed = [kind.good for kind in kinds]
                    handed[one], handed[other] = bad, worse
                    self.refused(kinds[one].error, call, handed)

    def test_all_at_once(self):
        for call, kinds in CALLS:
            for start in range(20):
                handed = [kind.bad[start] for kind in kinds]
                self.refused(kinds[0].error, call, handed)

    def test_what_is_just_within_is_taken(self):
        for call, kinds in CALLS:
            for at, kind in enumerate(kinds):
                for good in [kind.good, *kind.within]:
                    handed = [other.good for other in kinds]
                    handed[at] = good
                    before = snapshot(handed)
                    call(*handed)
                    self.assertTrue(snapshot(handed) == before)

    def test_stations_that_are_just_within_are_taken(self):
        for stations in good_stations():
            many = len(stations)
            rope = stations, 9, [1] + [0] * (many - 1)
            self.assertEqual(len(after(*rope, 50)[0]), many)
            self.assertEqual(len(let_on(*rope, 50)), many)
            self.assertEqual(stood(*rope, 50), 0)
            self.assertEqual(rate(*rope)[0], 1)
            self.assertGreaterEqual(settled(*rope)[1], 1)
            self.assertGreaterEqual(ride(*rope, 0, 0, many - 1)[0], 1)
            self.assertIsInstance(planned(stations, 9, 1, 60), (Keeps, Bars))
            self.assertEqual(Run(stations, 9).put(many - 1), 1)
            self.assertIsInstance(judged(stations, 9, [("go", 5, (0,) * many)]), Right)

    def test_cabins_go_by_the_room_of_their_own_station(self):
        for call, kinds in CALLS:
            if CABINS in kinds:
                for at, (ride_of, stay, room) in enumerate(FOUR):
                    for many in (room, room + 1):
                        handed = [kind.good for kind in kinds]
                        handed[2] = [many if k == at else 0 for k in range(4)]
                        if many > room:
                            self.refused(errors.BadCabins, call, handed)
                        else:
                            call(*handed)


# Each function with good arguments, and other lists that take the place of those, for which it tells something else.
OTHER_FOUR = [(9, 5, 3), (2, 1, 2), (30, 20, 9), (6, 4, 2)]
OTHER_CABINS = [1, 1, 0, 2]
CHANGES = (
    (after, (FOUR, 4, [3, 0, 1, 2], 77), {0: OTHER_FOUR, 2: OTHER_CABINS}),
    (let_on, (FOUR, 4, [3, 0, 1, 2], 777), {0: OTHER_FOUR, 2: OTHER_CABINS}),
    (stood, ([(2, 0, 1), (2, 3, 1)], 1, [1, 1], 777), {0: [(2, 0, 1), (2, 9, 1)], 2: [1, 0]}),
    (settled, (FOUR, 4, [3, 0, 1, 2]), {0: OTHER_FOUR, 2: OTHER_CABINS}),
    (rate, (FOUR, 4, [3, 0, 1, 2]), {0: OTHER_FOUR, 2: OTHER_CABINS}),
    (ride, (FOUR, 4, [3, 0, 1, 2], 77, 3, 1), {0: OTHER_FOUR, 2: OTHER_CABINS}),
    (planned, (FOUR, 4, 5, 20), {0: [(6, 2, 3), (1, 0, 1), (30, 20, 9), (7, 4, 2)]}),
    (Run, (FOUR, 4), {0: OTHER_FOUR}),
    (judged, (FOUR, 4, FORTY), {0: [(5, 0, 3), *FOUR[1:]], 2: FORTY[:8] + [("put", 0, 3)] + FORTY[9:]}),
    (Keeps([12, 2, 23, 20]).shows, (FOUR, 4, 5, 20), {0: [(6, 2, 3), (1, 0, 1), (30, 20, 9), (7, 4, 2)]}),
    (Bars("few", None).shows, (FOUR, 4, 4, 20), {0: [(5, 2, 3), (1, 0, 1), (30, 20, 9), (19, 4, 2)]}),
    (Right().shows, (FOUR, 4, FORTY), {0: [(5, 0, 3), *FOUR[1:]], 2: FORTY[:8] + [("put", 0, 3)] + FORTY[9:]}),
    (Wrong(8).shows, (FOUR, 4, FORTY), {2: FORTY[:8] + [("put", 0, 3)] + FORTY[9:]}),
)


class ChangesTest(unittest.TestCase):
    def test_lists_changed_in_place_and_put_back_are_told_anew(self):
        for call, good, changes in CHANGES:
            handed = copy.deepcopy(good)
            first = shown(call(*handed))
            for at, other in changes.items():
                with self.subTest(call=call, at=at):
                    self.assertEqual(shown(call(*handed)), first)
                    handed[at][:] = other
                    fresh = copy.deepcopy(good[:at] + (other,) + good[at + 1:])
                    self.assertEqual(shown(call(*handed)), shown(call(*fresh)))
                    self.assertNotEqual(shown(call(*handed)), first)
                    self.assertEqual(handed[at], other)
                    handed[at][:] = good[at]
                    self.assertEqual(shown(call(*handed)), first)

    def test_changed_to_what_is_bad_and_put_back(self):
        for call, good, changes in CHANGES[:9]:
            handed = copy.deepcopy(good)
            first = shown(call(*handed))
            for at in changes:
                for bad in (None, True, (0, 0)):
                    handed[at][-1] = bad
                    with self.assertRaises(errors.RopeError):
                        call(*handed)
                    handed[at][-1] = good[at][-1]
                    self.assertEqual(shown(call(*handed)), first)

    def test_what_is_told_is_new(self):
        for call, good, changes in CHANGES[:9]:
            handed = copy.deepcopy(good)
            first = shown(call(*handed))
            told = call(*handed)
            found = lists_within(told)
            self.assertEqual(len({id(one) for one in found}), len(found))
            for one in found:
                self.assertFalse(any(one is given for given in handed))
                one.append(99)
                one.reverse()
            self.assertEqual(shown(call(*handed)), first)
            self.assertEqual(handed, good)

    def test_what_is_told_is_the_same_each_time(self):
        for call, good, changes in CHANGES:
            self.assertEqual(shown(call(*good)), shown(call(*copy.deepcopy(good))))


if __name__ == "__main__":
    unittest.main()
