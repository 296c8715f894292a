"""Points 1, 8 and the interface: even plans, or what bars them."""

import copy
import itertools
import random
import unittest

from ropecabins.answers import Answer, Bars, Keeps
from ropecabins.plans import planned

MOST_CABINS, MOST_TICKS = 36, 60


def there_are_waits(stations, space, many, ticks):
    """By the document's words, one station after the other: all sums of waits that there are."""
    sums = {0}
    for ride, stay, room in stations:
        sums = {early + wait for early in sums for wait in range(stay, room * ticks)}
    return ticks >= space and many * ticks - sum(ride for ride, stay, room in stations) in sums


def are_such_waits(waits, stations, space, many, ticks):
    rides = sum(ride for ride, stay, room in stations)
    return (
        len(waits) == len(stations) and ticks >= space and rides + sum(waits) == many * ticks
        and all(wait in range(stay, room * ticks) for wait, (ride, stay, room) in zip(waits, stations))
    )


def all_bars(stations, space, many, ticks):
    """Each text with its station that bars the plan."""
    rides = sum(ride for ride, stay, room in stations)
    stays = sum(stay for ride, stay, room in stations)
    most = sum(room * ticks - 1 for ride, stay, room in stations)
    found = [("space", None)] if ticks < space else []
    found += [("room", at) for at, (ride, stay, room) in enumerate(stations) if stay >= room * ticks]
    found += [("few", None)] if many * ticks < rides + stays else []
    return found + ([("many", None)] if many * ticks > rides + most else [])


def some_plans(seed, count):
    """Plans of all sizes, small ones more often, many of them near to what bars them."""
    chance = random.Random(seed)
    for k in range(count):
        stations = [
            (
                chance.randint(1, chance.choice([3, 30])), chance.randint(0, chance.choice([1, 5, 20])),
                chance.randint(1, chance.choice([1, 2, 9])),
            )
            for at in range(chance.randint(1, 4))
        ]
        ticks = chance.randint(1, chance.choice([4, 12, MOST_TICKS]))
        rides = sum(ride for ride, stay, room in stations)
        least = (rides + sum(stay for ride, stay, room in stations)) // ticks
        most = (rides + sum(room * ticks - 1 for ride, stay, room in stations)) // ticks
        many = chance.choice([least, most, chance.randint(0, MOST_CABINS)]) + chance.randint(-1, 1)
        yield stations, chance.randint(1, chance.choice([2, 9])), min(max(many, 1), MOST_CABINS), ticks


class PlansTest(unittest.TestCase):
    def keeps(self, *plan):
        told = self.told(*plan)
        self.assertIs(told.__class__, Keeps, plan)
        self.assertTrue(are_such_waits(told.waits, *plan), (told.waits, plan))
        self.assertEqual(all_bars(*plan), [])
        return told

    def barred(self, text, station, *plan):
        """This bars the plan; where something else does, too, which one is told is free."""
        self.assertIs(self.told(*plan).__class__, Bars, plan)
        self.assertIn((text, station), all_bars(*plan))

    def told(self, *plan):
        """Told is one of two things, which shows itself."""
        told = planned(*plan)
        self.assertIsInstance(told, Answer)
        self.assertIs(told.shows(*plan), True, plan)
        if isinstance(told, Keeps):
            self.assertIs(told.waits.__class__, list)
            self.assertTrue(all(wait.__class__ is int for wait in told.waits))
        else:
            self.assertIn((told.text, told.station), all_bars(*plan))
        return told


class BoundsTest(PlansTest):
    def test_the_least_and_one_below_and_above(self):
        # The cabins times the ticks are 24; the rides and stays are as many, one more and one fewer.
        for stations in ([(4, 20, 9)], [(9, 3, 2), (5, 7, 2)], [(2, 2, 1), (4, 4, 1), (3, 3, 1), (1, 5, 1)]):
            for at, (ride, stay, room) in enumerate(stations):
                def other(more, longer):
                    return stations[:at] + [(ride + more, stay + longer, room)] + stations[at + 1:]
                self.assertEqual(self.keeps(stations, 3, 4, 6).waits, [stay for ride, stay, room in stations])
                self.barred("few", None, other(1, 0), 3, 4, 6)
                if stay < 20 and stay + 1 < room * 6:
                    self.barred("few", None, other(0, 1), 3, 4, 6)
                if ride > 1:
                    self.keeps(other(-1, 0), 3, 4, 6)
                if stay > 0:
                    self.keeps(other(0, -1), 3, 4, 6)

    def test_the_most_and_one_below_and_above(self):
        # With 6 ticks the rides and the longest waits are as many, one more and one fewer.
        for stations, many in (
            ([(7, 16, 3)], 4), ([(9, 3, 1), (5, 4, 1)], 4), ([(2, 0, 1), (3, 4, 1), (2, 2, 1), (3, 4, 1)], 5),
        ):
            longest = [room * 6 - 1 for ride, stay, room in stations]
            self.assertEqual(self.keeps(stations, 6, many, 6).waits, longest)
            for at, (ride, stay, room) in enumerate(stations):
                self.keeps(stations[:at] + [(ride + 1, stay, room)] + stations[at + 1:], 6, many, 6)
                self.barred("many", None, stations[:at] + [(ride - 1, stay, room)] + stations[at + 1:], 6, many, 6)
        # Four stations with as few places and as much room as there can be are just enough for 36 cabins.
        for ticks in (1, 2, 59, 60):
            self.assertEqual(self.keeps([(1, 0, 9)] * 4, 1, 36, ticks).waits, [9 * ticks - 1] * 4)
            self.barred("many", None, [(1, 0, 9)] * 3 + [(1, 0, 8)], 1, 36, ticks)
            self.barred("many", None, [(1, 0, 9)] * 3, 1, 28, ticks)
            self.keeps([(1, 0, 9)] * 3, 1, 27, ticks)

    def test_one_cabin_more_and_one_fewer(self):
        # The rides and stays are 20; the rides and the longest waits, 2 * 10 - 1 and 10 - 1, are 44.
        stations = [(12, 3, 2), (4, 1, 1)]
        self.barred("few", None, stations, 1, 1, 10)
        self.assertEqual(self.keeps(stations, 1, 2, 10).waits, [3, 1])
        self.keeps(stations, 1, 3, 10)
        self.keeps(stations, 1, 4, 10)
        self.barred("many", None, stations, 1, 5, 10)

    def test_as_many_ticks_as_the_space_and_one_fewer(self):
        for space in range(2, 10):
            for stations in ([(space, 0, 1)], [(1, 0, 9)] * 4):
                self.keeps(stations, space, len(stations), space)
                self.keeps(stations, space - 1, len(stations), space)
                self.barred("space", None, stations, space, len(stations), space - 1)
        self.keeps([(1, 0, 1)], 1, 1, 1)

    def test_a_stay_as_long_as_the_room_times_the_ticks_and_one_less(self):
        for count in (1, 2, 3, 4):
            for at in range(count):
                for ticks, room in ((1, 1), (2, 1), (1, 9), (9, 1), (4, 5), (10, 2), (20, 1)):
                    stations = [(1, 0, 9)] * count
                    stations[at] = (1, room * ticks, room)
                    for many in (1, count, 8 * count, 36):
                        self.barred("room", at, stations, 1, many, ticks)
                    stations[at] = (1, room * ticks - 1, room)
                    self.keeps(stations, 1, room + count - 1, ticks)

    def test_a_stay_alone_bars(self):
        # Of one station alone there are few or many, too, where its stay is too long.
        for count in (2, 3, 4):
            for at in range(count):
                stations = [(5, 0, 9)] * count
                stations[at] = (5, 12, 2)
                self.assertEqual(all_bars(stations, 6, 2 + count, 6), [("room", at)])
                self.barred("room", at, stations, 6, 2 + count, 6)
                stations[at] = (5, 11, 2)
                self.keeps(stations, 6, 2 + count, 6)

    def test_the_station_of_a_stay_counts_from_0(self):
        stations = [(5, 1, 2), (5, 20, 2), (5, 1, 2), (5, 20, 2)]
        self.assertEqual(all_bars(stations, 1, 9, 10), [("room", 1), ("room", 3)])
        self.barred("room", 1, stations, 1, 9, 10)
        self.barred("room", 3, stations, 1, 9, 10)

    def test_least_and_most_of_all(self):
        self.assertEqual(self.keeps([(1, 0, 1)], 1, 1, 1).waits, [0])
        self.barred("many", None, [(1, 0, 1)], 1, 2, 1)
        self.barred("many", None, [(1, 0, 1)], 1, 36, 60)
        self.barred("few", None, [(30, 20, 9)] * 4, 9, 1, 60)
        self.barred("few", None, [(30, 20, 9)] * 4, 9, 3, 60)
        self.keeps([(30, 20, 9)] * 4, 9, 4, 60)
        self.keeps([(30, 20, 9)] * 4, 9, 36, 60)
        self.assertEqual(self.keeps([(30, 20, 1)], 9, 1, 60).waits, [30])
        self.assertEqual(self.keeps([(30, 0, 1)], 9, 1, 30).waits, [0])
        self.barred("few", None, [(30, 0, 1)], 9, 1, 29)
        self.keeps([(1, 0, 1)] * 4, 1, 4, 60)
        self.keeps([(1, 0, 1)] * 4, 1, 1, 60)
        self.barred("few", None, [(1, 0, 4)] * 4, 1, 3, 1)
        self.keeps([(1, 0, 9)] * 4, 1, 36, 1)


class ManyPlansTest(PlansTest):
    def test_keeps_just_where_there_are_waits(self):
        kinds = {"keeps": 0, "space": 0, "room": 0, "few": 0, "many": 0}
        for plan in some_plans(1, 3000):
            told = self.told(*plan)
            if there_are_waits(*plan):
                self.keeps(*plan)
            else:
                self.assertIs(told.__class__, Bars, plan)
            kinds[told.text if isinstance(told, Bars) else "keeps"] += 1
        self.assertGreater(min(kinds.values()), 50, kinds)

    def test_each_small_plan(self):
        triples = list(itertools.product((1, 2, 4), (0, 1, 3), (1, 2)))
        for count in (1, 2):
            for stations in itertools.product(triples, repeat=count):
                for many, ticks in itertools.product((1, 2, 3, 4), (1, 2, 3, 5)):
                    plan = list(stations), 2, many, ticks
                    if there_are_waits(*plan):
                        self.keeps(*plan)
                    else:
                        self.assertIs(self.told(*plan).__class__, Bars)

    def test_of_other_plans_what_is_due(self):
        plans = list(some_plans(2, 150))
        for plan in plans:
            told = planned(*plan)
            for other in plans:
                if isinstance(told, Keeps):
                    due = are_such_waits(told.waits, *other)
                else:
                    due = (told.text, told.station) in all_bars(*other)
                self.assertIs(told.shows(*other), due)

    def test_never_both(self):
        for plan in some_plans(3, 500):
            barred = [Bars(*bar).shows(*plan) for bar in all_bars(*plan)]
            self.assertEqual(isinstance(planned(*plan), Bars), any(barred))


class NewnessTest(PlansTest):
    plan = [(4, 1, 1), (6, 2, 1)], 3, 2, 8

    def test_the_waits_may_be_changed(self):
        first = planned(*self.plan)
        before = list(first.waits)
        first.waits[0] += 1
        self.assertFalse(first.shows(*self.plan))
        first.waits[1] -= 1
        self.assertEqual(first.shows(*self.plan), are_such_waits(first.waits, *self.plan))
        first.waits.append(0)
        self.assertFalse(first.shows(*self.plan))
        first.waits.clear()
        self.assertFalse(first.shows(*self.plan))
        second = planned(*self.plan)
        self.assertIsNot(second.waits, first.waits)
        self.assertEqual(second.waits, before)
        self.assertTrue(second.shows(*self.plan))
        first.waits += before
        self.assertTrue(first.shows(*self.plan))

    def test_all_waits_of_a_plan_show_it(self):
        told = planned(*self.plan)
        shown = []
        for waits in itertools.product(range(-1, 10), repeat=2):
            told.waits = list(waits)
            if told.shows(*self.plan):
                shown.append(waits)
        self.assertEqual(shown, [(1, 5), (2, 4), (3, 3), (4, 2)])

    def test_what_bars_may_be_changed(self):
        plan = [(4, 1, 1), (6, 2, 1)], 9, 2, 8
        first = planned(*plan)
        self.assertEqual((first.text, first.station), ("space", None))
        first.text = "few"
        self.assertFalse(first.shows(*plan))
        self.assertEqual(planned(*plan).text, "space")

    def test_nothing_handed_in_is_changed_or_kept(self):
        stations = [(4, 1, 1), (6, 2, 1)]
        handed = copy.deepcopy(stations)
        told = planned(handed, 3, 2, 8)
        self.assertEqual(handed, stations)
        self.assertEqual(set(vars(told)), {"waits"})
        waits = list(told.waits)
        handed[0] = (30, 20, 9)
        self.assertEqual(told.waits, waits)
        self.assertTrue(told.shows(stations, 3, 2, 8))
        self.assertFalse(told.shows(handed, 3, 2, 8))
        self.assertIs(planned(handed, 3, 2, 8).__class__, Bars)
        handed[0] = (4, 1, 1)
        self.assertEqual(planned(handed, 3, 2, 8).waits, waits)


if __name__ == "__main__":
    unittest.main()
