"""Points 1, 3, 4, 9 and the interface: a rope that is run."""

import copy
import random
import unittest

from ropecabins import errors
from ropecabins.answers import Right
from ropecabins.ropes import after, let_on, stood
from ropecabins.runs import Run
from tests.plain import PlainRope, some_ropes

GREAT = 10 ** 30
TOO_GREAT_TO_SHOW = 10 ** 6000
METHODS = ("go_on", "stop", "put", "take", "stands", "passed", "stood", "tale")
NO_NUMBERS = (None, True, False, "", "1", b"1", [], [1], (), (1,), {}, {0: 1}, {1}, range(2), object())


def all_told(run):
    return run.stands(), run.passed(), run.stood(), run.tale()


def all_plainly_told(rope, tale):
    return rope.stands(), rope.ticks, rope.stood, tale


class RunTest(unittest.TestCase):
    def refused(self, run, kind, deed, *handed):
        """Refused with this very class, and nothing is changed, the tale neither."""
        before = all_told(run)
        with self.assertRaises(errors.RopeError) as caught:
            deed(*handed)
        self.assertIs(caught.exception.__class__, kind)
        self.assertTrue(all_told(run) == before)


class InterfaceTest(unittest.TestCase):
    def test_each_method_is_defined_in_the_class_itself(self):
        for name in METHODS:
            self.assertIn(name, vars(Run))

    def test_kinds_of_what_is_told(self):
        run = Run([(3, 1, 2), (4, 0, 1)], 2)
        self.assertIs(run.put(0).__class__, int)
        self.assertIs(run.take(0).__class__, int)
        let = run.go_on(3)
        self.assertIs(let.__class__, list)
        self.assertTrue(all(many.__class__ is int for many in let))
        self.assertIs(run.stop(3).__class__, int)
        self.assertIs(run.passed().__class__, int)
        self.assertIs(run.stood().__class__, int)
        stands = run.stands()
        self.assertIs(stands.__class__, tuple)
        self.assertEqual([part.__class__ for part in stands], [list] * 3)
        self.assertEqual([one.__class__ for part in stands for one in part], [list] * 6)
        self.assertIs(run.tale().__class__, list)
        self.assertEqual([line.__class__ for line in run.tale()], [tuple] * 4)
        self.assertIs(run.tale()[2][2].__class__, tuple)


class ByHandTest(RunTest):
    def test_at_first(self):
        for stations, space in (([(3, 1, 2)], 2), ([(30, 20, 9)] * 4, 9), ([(1, 0, 1)], 1)):
            run = Run(stations, space)
            many = len(stations)
            self.assertEqual(all_told(run), (([[]] * many, [[]] * many, [[space]] * many), 0, 0, []))

    def test_one_station(self):
        run = Run([(3, 1, 2)], 2)
        self.assertEqual(run.put(0), 1)
        self.assertEqual(run.put(0), 2)
        self.assertEqual(run.stands(), ([[0, 0]], [[]], [[2]]))
        self.assertEqual(run.go_on(2), [1])
        self.assertEqual(run.stands(), ([[1]], [[1]], [[1]]))
        # The next one is due by its stay, but not by the space: by hand the rope does not go.
        self.assertEqual(run.stop(4), 4)
        self.assertEqual(run.stands(), ([[1]], [[1]], [[1]]))
        self.assertEqual(run.go_on(1), [0])
        self.assertEqual(run.stands(), ([[1]], [[2]], [[2]]))
        self.assertEqual(run.stop(1), 5)
        self.assertEqual(run.stands(), ([[1]], [[2]], [[2]]))
        self.assertEqual(run.go_on(1), [1])
        self.assertEqual(run.stands(), ([[0]], [[1]], [[1]]))
        self.assertEqual((run.passed(), run.stood()), (9, 5))
        self.assertEqual(run.put(0), 2)
        self.refused(run, errors.Full, run.put, 0)
        self.assertEqual(run.take(0), 1)
        self.assertEqual(run.take(0), 0)
        self.refused(run, errors.Empty, run.take, 0)
        self.assertEqual(run.go_on(0), [0])
        self.assertEqual(run.stop(0), 5)
        self.assertEqual(run.go_on(10), [2])
        self.assertEqual(run.stands(), ([[0]], [[]], [[2]]))
        self.assertEqual((run.passed(), run.stood()), (19, 5))
        self.assertEqual(run.tale(), [
            ("put", 0, 1), ("put", 0, 2), ("go", 2, (1,)), ("stop", 4), ("go", 1, (0,)), ("stop", 1), ("go", 1, (1,)),
            ("put", 0, 2), ("take", 0, 1), ("take", 0, 0), ("go", 0, (0,)), ("stop", 0), ("go", 10, (2,)),
        ])

    def test_stood_counts_those_by_hand_and_those_by_a_full_row(self):
        # As FULL_ROW in tests/test_ropes.py: the rope stands in ticks 2 and 3 of those that go.
        run = Run([(2, 0, 1), (2, 3, 1)], 1)
        run.put(0)
        run.put(1)
        self.assertEqual(run.go_on(2), [1, 0])
        self.assertEqual((run.passed(), run.stood()), (2, 1))
        self.assertEqual(run.stop(1), 2)
        self.assertEqual(run.stands(), ([[], [3]], [[1], []], [[1], [1]]))
        self.assertEqual(run.go_on(1), [0, 1])
        self.assertEqual((run.passed(), run.stood()), (4, 2))
        self.assertEqual(run.stands(), ([[], [0]], [[], [1]], [[1], [1]]))

    def test_a_rope_that_stands_for_ever_is_freed_by_one_taken_out(self):
        run = Run([(2, 0, 2), (9, 0, 1)], 3)
        self.assertEqual([run.put(1), run.put(0)], [1, 1])
        self.assertEqual(run.go_on(1), [1, 1])
        # The row of station 1 is full now, one hangs before it, and none may be let on before the rope goes on.
        self.assertEqual(run.put(1), 1)
        stands = ([[], [0]], [[1], [1]], [[1], [1]])
        still = 0
        for ticks in (0, 1, 2, 77, 10 ** 20, GREAT, TOO_GREAT_TO_SHOW):
            still += ticks
            self.assertEqual(run.go_on(ticks), [0, 0])
            self.assertEqual(run.stands(), stands)
            self.assertTrue((run.passed(), run.stood()) == (still + 1, still))
        self.assertEqual(run.take(1), 0)
        self.assertEqual(run.go_on(1), [0, 0])
        self.assertEqual(run.stands(), ([[], [0]], [[], [2]], [[2], [2]]))
        self.assertTrue((run.passed(), run.stood()) == (still + 2, still))
        self.assertEqual(run.go_on(2), [0, 1])

    def test_a_stop_while_a_cabin_is_due(self):
        run = Run([(9, 3, 2)], 1)
        run.put(0)
        self.assertEqual(run.stop(2), 2)
        self.assertEqual(run.stands(), ([[2]], [[]], [[1]]))
        run.put(0)
        self.assertEqual(run.stop(1), 3)
        self.assertEqual(run.stands(), ([[3, 1]], [[]], [[1]]))
        # Due now, but none is let on in a stop, however long it is.
        for ticks, waited in ((1, 2), (1, 3), (1, 3), (20, 3), (GREAT, 3)):
            run.stop(ticks)
            self.assertEqual(run.stands(), ([[3, waited]], [[]], [[1]]))
        self.assertEqual(run.go_on(1), [1])
        self.assertEqual(run.stands(), ([[3]], [[1]], [[1]]))
        self.assertEqual(run.go_on(1), [1])
        self.assertEqual(run.stands(), ([[]], [[2, 1]], [[1]]))

    def test_the_longest_stay_waits_on_by_hand(self):
        for ticks in (0, 1, 19, 20, 21, 22, GREAT):
            run = Run([(5, 20, 1), (5, 19, 1)], 1)
            run.put(0)
            run.put(1)
            run.stop(ticks)
            self.assertEqual(run.stands()[0], [[min(ticks, 20)], [min(ticks, 19)]])
            self.assertEqual(run.go_on(1), [int(ticks >= 20), int(ticks >= 19)])

    def test_hung_cabins_do_not_come_on_by_hand(self):
        run = Run([(2, 0, 1)], 9)
        run.put(0)
        run.go_on(1)
        for ticks in (1, 2, 9, GREAT):
            run.stop(ticks)
            self.assertEqual(run.stands(), ([[]], [[1]], [[1]]))
        run.go_on(1)
        self.assertEqual(run.stands(), ([[0]], [[]], [[2]]))

    def test_the_last_one_of_a_row_is_put_in_and_taken_out(self):
        run = Run([(5, 9, 3)], 1)
        for many in (1, 2, 3):
            self.assertEqual(run.put(0), many)
            run.stop(2)
        self.assertEqual(run.stands()[0], [[6, 4, 2]])
        self.assertEqual(run.take(0), 2)
        self.assertEqual(run.stands()[0], [[6, 4]])
        self.assertEqual(run.put(0), 3)
        self.assertEqual(run.stands()[0], [[6, 4, 0]])
        self.assertEqual([run.take(0), run.take(0)], [2, 1])
        self.assertEqual(run.stands()[0], [[6]])
        self.assertEqual(run.take(0), 0)
        self.assertEqual(run.stands()[0], [[]])

    def test_what_is_put_in_with_no_stay_is_let_on_in_the_next_tick(self):
        run = Run([(1, 0, 1)], 1)
        run.put(0)
        self.assertEqual(run.go_on(1), [1])
        self.assertEqual(run.stands(), ([[0]], [[]], [[1]]))
        self.assertEqual(run.go_on(GREAT), [GREAT])
        self.assertEqual(run.stood(), 0)


class DeedsTest(RunTest):
    def test_no_ticks_change_nothing_but_the_tale(self):
        run = Run([(3, 1, 2), (2, 0, 1)], 2)
        for deed in range(3):
            before = run.stands(), run.passed(), run.stood(), run.tale()
            self.assertEqual(run.go_on(0), [0, 0])
            self.assertEqual(run.stop(0), before[2])
            now = run.stands(), run.passed(), run.stood(), run.tale()
            self.assertEqual(now, before[:3] + (before[3] + [("go", 0, (0, 0)), ("stop", 0)],))
            run.put(0) if deed == 0 else run.go_on(3)

    def test_very_many_ticks(self):
        # One cabin goes around in 4 ticks and waits 3: let on at each station once in 7 ticks.
        for great in (10 ** 20, GREAT, GREAT ** 5, TOO_GREAT_TO_SHOW):
            run = Run([(2, 0, 1), (2, 3, 1)], 1)
            run.put(0)
            self.assertTrue(run.go_on(7 * great) == [great, great])
            self.assertEqual(run.stands(), ([[0], []], [[], []], [[1], [1]]))
            self.assertTrue(run.stop(great) == great)
            self.assertTrue(run.go_on(7 * great + 1) == [great + 1, great])
            self.assertTrue(run.stop(3 * great + 1) == 4 * great + 1)
            self.assertEqual(run.stands(), ([[], []], [[1], []], [[1], [1]]))
            self.assertTrue((run.passed(), run.stood()) == (18 * great + 2, 4 * great + 1))
            self.assertTrue(run.tale() == [
                ("put", 0, 1), ("go", 7 * great, (great, great)), ("stop", great),
                ("go", 7 * great + 1, (great + 1, great)), ("stop", 3 * great + 1),
            ])

    def test_up_to_the_room_and_down_to_none(self):
        for room in (1, 2, 8, 9):
            for count in (1, 4):
                for at in range(count):
                    stations = [(30, 20, 9)] * count
                    stations[at] = (30, 20, room)
                    run = Run(stations, 9)
                    self.refused(run, errors.Empty, run.take, at)
                    self.assertEqual([run.put(at) for k in range(room)], list(range(1, room + 1)))
                    self.refused(run, errors.Full, run.put, at)
                    self.refused(run, errors.Full, run.put, at)
                    self.assertEqual(run.take(at), room - 1)
                    self.assertEqual(run.put(at), room)
                    self.refused(run, errors.Full, run.put, at)
                    self.assertEqual([run.take(at) for k in range(room)], list(range(room - 1, -1, -1)))
                    self.refused(run, errors.Empty, run.take, at)
                    self.assertEqual(len(run.tale()), 2 * room + 2)

    def test_what_hangs_is_not_in_the_row(self):
        run = Run([(9, 0, 1), (9, 0, 1)], 1)
        run.put(0)
        run.go_on(1)
        self.refused(run, errors.Empty, run.take, 0)
        self.refused(run, errors.Empty, run.take, 1)
        self.assertEqual(run.put(0), 1)
        self.refused(run, errors.Full, run.put, 0)

    def test_more_than_forty_deeds(self):
        run = Run([(3, 1, 2)], 2)
        due = []
        for k in range(300):
            run.put(0)
            run.stop(1)
            run.take(0)
            due += [("put", 0, 1), ("stop", 1), ("take", 0, 0)]
        self.assertEqual(run.tale(), due)
        self.assertEqual((run.passed(), run.stood()), (300, 300))

    def test_all_deeds_agree_with_the_plain_rope(self):
        chance = random.Random(21)
        for stations, space, cabins in some_ropes(21, 150):
            run, plain, tale = Run(stations, space), PlainRope(stations, space), []
            for k in range(60):
                self.deed(run, plain, tale, chance)
                self.assertEqual(all_told(run), all_plainly_told(plain, tale))

    def deed(self, run, plain, tale, chance):
        """One deed by chance, of the run and of the plain rope; its line is put behind the tale."""
        at, deed = chance.randrange(plain.count), chance.randrange(7)
        ticks = chance.choice([0, 1, 2, chance.randrange(12), chance.randrange(60)])
        if deed == 0:
            plain.stop(ticks)
            self.assertEqual(run.stop(ticks), plain.stood)
            tale.append(("stop", ticks))
        elif deed < 3 and plain.rows[at]:
            tale.append(("take", at, plain.take(at)))
            self.assertEqual(run.take(at), tale[-1][2])
        elif deed < 3:
            self.refused(run, errors.Empty, run.take, at)
        elif deed < 5 and len(plain.rows[at]) < plain.stations[at][2]:
            tale.append(("put", at, plain.put(at)))
            self.assertEqual(run.put(at), tale[-1][2])
        elif deed < 5:
            self.refused(run, errors.Full, run.put, at)
        else:
            tale.append(("go", ticks, plain.go(ticks)))
            self.assertEqual(run.go_on(ticks), list(tale[-1][2]))

    def test_very_many_ticks_agree_with_the_plain_rope(self):
        chance = random.Random(22)
        for stations, space, cabins in some_ropes(22, 60):
            if len(stations) > 2:
                continue
            run, plain, tale = Run(stations, space), PlainRope(stations, space), []
            for k in range(30):
                self.deed(run, plain, tale, chance)
                if k % 5 == 4:
                    ticks = chance.randrange(GREAT)
                    tale.append(("go", ticks, plain.leap(ticks)))
                    self.assertEqual(run.go_on(ticks), list(tale[-1][2]))
                self.assertEqual(all_told(run), all_plainly_told(plain, tale))

    def test_in_parts_and_at_once(self):
        chance = random.Random(23)
        for stations, space, cabins in some_ropes(23, 80):
            run = Run(stations, space)
            for at, many in enumerate(cabins):
                self.assertEqual([run.put(at) for k in range(many)], list(range(1, many + 1)))
            let, ticks = [0] * len(stations), 0
            for part in (0, 1, chance.randrange(30), chance.randrange(900), chance.randrange(GREAT), 1, GREAT):
                let = [early + more for early, more in zip(let, run.go_on(part))]
                ticks += part
                self.assertEqual(run.stands(), after(stations, space, cabins, ticks))
                self.assertEqual(let, let_on(stations, space, cabins, ticks))
                self.assertEqual(run.stood(), stood(stations, space, cabins, ticks))
                self.assertEqual(run.passed(), ticks)
            self.assertEqual(len(run.tale()), sum(cabins) + 7)


class RefusalsTest(RunTest):
    def test_the_making(self):
        good = [(5, 2, 3)]
        for stations in (None, [], ((5, 2, 3),), good * 5, [(5, 2, 0)], [(5, 2, True)], [[5, 2, 3]], 1, "ab"):
            for space in (4, 0, 10, None):
                with self.assertRaises(errors.RopeError) as caught:
                    Run(stations, space)
                self.assertIs(caught.exception.__class__, errors.BadStations)
        for space in NO_NUMBERS + (0, 10, -1, GREAT, TOO_GREAT_TO_SHOW):
            with self.assertRaises(errors.RopeError) as caught:
                Run(good, space)
            self.assertIs(caught.exception.__class__, errors.BadSpace)
        for space in (1, 9):
            Run(good, space)

    def ran(self):
        """A run in which one row is full, one is empty, and one is neither."""
        run = Run([(5, 9, 3), (4, 8, 2), (7, 1, 1)], 4)
        for at in (0, 0, 0, 1):
            run.put(at)
        run.go_on(5)
        run.stop(2)
        return run

    def test_ticks(self):
        run = self.ran()
        for ticks in NO_NUMBERS + (-1, -GREAT, -TOO_GREAT_TO_SHOW):
            self.refused(run, errors.BadTicks, run.go_on, ticks)
            self.refused(run, errors.BadTicks, run.stop, ticks)
        self.assertEqual(run.go_on(0), [0, 0, 0])
        self.assertEqual(run.stop(0), 2)

    def test_a_station_comes_before_its_row(self):
        run = self.ran()
        for station in NO_NUMBERS + (-1, -3, 3, 4, GREAT, -GREAT, TOO_GREAT_TO_SHOW, -TOO_GREAT_TO_SHOW):
            self.refused(run, errors.BadStation, run.put, station)
            self.refused(run, errors.BadStation, run.take, station)
        self.refused(run, errors.Full, run.put, 0)
        self.refused(run, errors.Empty, run.take, 2)
        self.assertEqual([run.take(0), run.put(0), run.put(1), run.put(2)], [2, 3, 2, 1])

    def test_each_count_of_stations(self):
        for count in (1, 2, 3, 4):
            run = Run([(5, 2, 3)] * count, 4)
            for station in range(count):
                self.assertEqual(run.put(station), 1)
            self.refused(run, errors.BadStation, run.put, count)
            self.refused(run, errors.BadStation, run.take, count)
            self.refused(run, errors.BadStation, run.take, -1)

    def test_what_comes_behind_a_refusal_is_as_without_it(self):
        one, other = self.ran(), self.ran()
        for deed, handed in ((one.go_on, -1), (one.stop, None), (one.put, 0), (one.take, 2), (one.put, 9)):
            with self.assertRaises(errors.RopeError):
                deed(handed)
        self.assertEqual(one.go_on(40), other.go_on(40))
        self.assertEqual(all_told(one), all_told(other))


class NewnessTest(RunTest):
    def test_two_runs_by_turns(self):
        stations = [(3, 1, 2), (2, 0, 1)]
        one, other, alone = Run(stations, 2), Run(stations, 2), Run(stations, 2)
        for k in range(12):
            for run in (one, alone):
                run.put(0) if k in (0, 3) else run.go_on(k)
            other.stop(5)
            if k == 6:
                other.put(1)
        self.assertEqual(all_told(one), all_told(alone))
        self.assertEqual(all_told(other), (([[], [0]], [[], []], [[2], [2]]), 60, 60, other.tale()))
        self.assertEqual(other.tale(), [("stop", 5)] * 7 + [("put", 1, 1)] + [("stop", 5)] * 5)

    def test_stations_changed_behind_the_making(self):
        stations = [(3, 1, 2), (2, 0, 1)]
        run, alone = Run(stations, 2), Run(list(stations), 2)
        stations[0] = (30, 20, 9)
        stations.append((1, 0, 1))
        for one in (run, alone):
            one.put(0)
            one.put(0)
            self.refused(one, errors.Full, one.put, 0)
            self.refused(one, errors.BadStation, one.put, 2)
            one.go_on(3)
        stations.clear()
        for one in (run, alone):
            one.go_on(50)
            one.stop(2)
        self.assertEqual(all_told(run), all_told(alone))

    def test_nothing_handed_in_is_changed(self):
        stations = [(3, 1, 2), (2, 0, 1)]
        handed = copy.deepcopy(stations)
        run = Run(handed, 2)
        run.put(0)
        run.go_on(100)
        self.assertEqual(handed, stations)

    def test_what_is_told_may_be_changed(self):
        run, alone = Run([(3, 1, 2), (2, 0, 1)], 2), Run([(3, 1, 2), (2, 0, 1)], 2)
        for k in range(8):
            for one in (run, alone):
                one.put(0) if k < 2 else one.stop(1)
            let = run.go_on(k)
            self.assertEqual(let, alone.go_on(k))
            let[0] += 5
            let.append(9)
            for part in run.stands():
                for one in part:
                    one.append(99)
                part.append([99])
            tale = run.tale()
            tale[0] = ("stop", 99)
            tale.append(("stop", 1))
            run.tale().clear()
            self.assertEqual(all_told(run), all_told(alone))

    def test_what_was_told_stays_as_it_was(self):
        run = Run([(3, 1, 2)], 2)
        run.put(0)
        stands, tale, let = run.stands(), run.tale(), run.go_on(1)
        run.go_on(7)
        run.put(0)
        self.assertEqual((stands, tale, let), (([[0]], [[]], [[2]]), [("put", 0, 1)], [0]))

    def test_no_two_lists_of_how_it_stands_are_the_same_one(self):
        stands = Run([(3, 1, 2)] * 4, 2).stands()
        parts = [id(part) for part in stands] + [id(one) for part in stands for one in part]
        self.assertEqual(len(set(parts)), 15)

    def test_its_tale_is_right(self):
        chance = random.Random(24)
        for stations, space, cabins in some_ropes(24, 60):
            run, plain, tale = Run(stations, space), PlainRope(stations, space), []
            while len(run.tale()) < 40:
                DeedsTest().deed(run, plain, tale, chance)
            self.assertTrue(Right().shows(stations, space, run.tale()))


if __name__ == "__main__":
    unittest.main()
