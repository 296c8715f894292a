"""Points 1, 8, 10 and the interface: the answers, and whether they show what they tell."""

import copy
import random
import unittest

from ropecabins import answers
from ropecabins.answers import Answer, Bars, Keeps, Right, Wrong
from tests.plain import some_ropes, some_tale

GREAT = 10 ** 30
TOO_GREAT_TO_SHOW = 10 ** 6000
ODD_FIELDS = (
    0, 1, -1, GREAT, -TOO_GREAT_TO_SHOW, "", "space", "room", "few", "many", "go", [], [0], [-GREAT, GREAT], [1] * 1000,
    None,
)


class ClassesTest(unittest.TestCase):
    def test_each_is_straight_under_answer(self):
        self.assertEqual(Answer.__bases__, (object,))
        for kind in (Keeps, Bars, Right, Wrong):
            self.assertEqual(kind.__bases__, (Answer,))

    def test_each_has_its_own_shows(self):
        for kind in (Keeps, Bars, Right, Wrong):
            self.assertIn("shows", vars(kind))

    def test_the_fields(self):
        self.assertEqual(vars(Keeps([3, 4])), {"waits": [3, 4]})
        self.assertEqual(vars(Bars("room", 2)), {"text": "room", "station": 2})
        self.assertEqual(vars(Bars("few", None)), {"text": "few", "station": None})
        self.assertEqual(vars(Right()), {})
        self.assertEqual(vars(Wrong(7)), {"line": 7})

    def test_fields_of_any_kind_that_is_told(self):
        for field in ODD_FIELDS:
            self.assertTrue(Keeps(field).waits == field)
            self.assertTrue(Bars(field, None).text == field)
            self.assertTrue(Bars("room", field).station == field)
            self.assertTrue(Wrong(field).line == field)

    def test_lists_are_copied(self):
        waits = [3, 4]
        keeps = Keeps(waits)
        self.assertIsNot(keeps.waits, waits)
        waits.append(5)
        self.assertEqual(keeps.waits, [3, 4])
        keeps.waits.append(6)
        self.assertEqual(waits, [3, 4, 5])
        self.assertIsNot(Wrong(waits).line, waits)
        self.assertIsNot(Bars(waits, waits).text, waits)
        self.assertIsNot(Bars(waits, waits).station, waits)


class KeepsTest(unittest.TestCase):
    def shows(self, waits, *plan):
        told = Keeps(waits).shows(*plan)
        self.assertIn(told, (True, False))
        self.assertIs(told.__class__, bool)
        return told

    def test_waits_that_keep_the_plan(self):
        # The rides are 10, the cabins times the ticks 16: the waits are 6 in all, from 1 and 2 to 7.
        plan = [(4, 1, 1), (6, 2, 1)], 3, 2, 8
        for waits in ([1, 5], [2, 4], [3, 3], [4, 2]):
            self.assertTrue(self.shows(waits, *plan), waits)
        for waits in ([0, 6], [5, 1], [6, 0], [-1, 7], [7, -1], [1, 4], [1, 6], [2, 5], [8, -2]):
            self.assertFalse(self.shows(waits, *plan), waits)

    def test_at_the_stay_and_one_less(self):
        self.assertTrue(self.shows([3], [(5, 3, 1)], 1, 1, 8))
        self.assertFalse(self.shows([3], [(5, 4, 1)], 1, 1, 8))
        self.assertTrue(self.shows([0], [(8, 0, 1)], 1, 1, 8))
        self.assertFalse(self.shows([-1], [(9, 0, 1)], 1, 1, 8))

    def test_at_the_room_times_the_ticks_and_one_less(self):
        self.assertTrue(self.shows([7], [(1, 0, 1)], 1, 1, 8))
        self.assertFalse(self.shows([8], [(8, 0, 1)], 1, 2, 8))
        self.assertTrue(self.shows([15], [(1, 0, 2)], 1, 2, 8))
        self.assertTrue(self.shows([8], [(8, 0, 2)], 1, 2, 8))
        self.assertFalse(self.shows([16], [(8, 0, 2)], 1, 3, 8))

    def test_the_greatest_plan(self):
        stations = [(30, 20, 9)] * 4
        self.assertTrue(self.shows([510] * 4, stations, 9, 36, 60))
        self.assertTrue(self.shows([530, 490, 539, 481], stations, 9, 36, 60))
        self.assertFalse(self.shows([540, 500, 500, 500], stations, 9, 36, 60))
        self.assertFalse(self.shows([510, 510, 510, 509], stations, 9, 36, 60))

    def test_the_ticks_are_no_fewer_than_the_space(self):
        for space in range(1, 10):
            for ticks in range(1, 12):
                self.assertEqual(self.shows([ticks - 1], [(1, 0, 1)], space, 1, ticks), ticks >= space)

    def test_fewer_and_more_waits_than_stations(self):
        plan = [(4, 1, 1), (6, 2, 1)], 3, 2, 8
        for waits in ([], [6], [1, 5, 0], [1, 2, 3], [1, 5] * 2, [0] * 1000, [3, 3, GREAT, -GREAT]):
            self.assertFalse(self.shows(waits, *plan))

    def test_numbers_of_any_sign_and_size(self):
        plan = [(4, 1, 1), (6, 2, 1)], 3, 2, 8
        for great in (GREAT, TOO_GREAT_TO_SHOW):
            for waits in ([great, 6 - great], [6 - great, great], [great, great], [-great, -great], [3, great]):
                self.assertFalse(self.shows(waits, *plan))

    def test_what_is_no_list_of_numbers(self):
        plan = [(4, 1, 1), (6, 2, 1)], 3, 2, 8
        for waits in (0, 6, GREAT, "", "15", None, ["1", "5"], [True, 5], [None, 6], [[1], [5]]):
            self.assertFalse(self.shows(waits, *plan))
        self.assertFalse(self.shows([True, 5], [(4, 1, 1), (6, 2, 1)], 3, 2, 8))

    def test_by_the_field_as_it_stands_then(self):
        plan = [(4, 1, 1), (6, 2, 1)], 3, 2, 8
        keeps = Keeps([1, 5])
        self.assertTrue(keeps.shows(*plan))
        keeps.waits[0] = 2
        self.assertFalse(keeps.shows(*plan))
        keeps.waits[1] = 4
        self.assertTrue(keeps.shows(*plan))
        keeps.waits.append(0)
        self.assertFalse(keeps.shows(*plan))
        keeps.waits = [3, 3]
        self.assertTrue(keeps.shows(*plan))

    def test_nothing_is_changed(self):
        stations, keeps = [(4, 1, 1), (6, 2, 1)], Keeps([1, 5])
        keeps.shows(stations, 3, 2, 8)
        self.assertEqual((stations, keeps.waits), ([(4, 1, 1), (6, 2, 1)], [1, 5]))


# A plan that nothing bars, and for each text one that it bars alone.
FREE_PLAN = [(4, 1, 1), (6, 2, 1)], 3, 2, 8
TOO_NEAR = [(4, 1, 2), (6, 2, 2)], 9, 2, 8
NO_ROOM = [(10, 1, 9), (6, 8, 1)], 3, 4, 8
TOO_FEW = [(4, 1, 1), (6, 6, 1)], 3, 2, 8
TOO_MANY = [(4, 1, 1), (4, 2, 1)], 3, 3, 8
TEXTS = ("space", "room", "few", "many")


class BarsTest(unittest.TestCase):
    def shows(self, text, station, *plan):
        told = Bars(text, station).shows(*plan)
        self.assertIs(told.__class__, bool)
        return told

    def showing(self, *plan):
        stations = (None, 0, 1, 2, 3, 4, -1, -2, GREAT, -GREAT, TOO_GREAT_TO_SHOW)
        return [(text, station) for text in TEXTS for station in stations if self.shows(text, station, *plan)]

    def test_each_text_where_it_bars(self):
        self.assertEqual(self.showing(*FREE_PLAN), [])
        self.assertEqual(self.showing(*TOO_NEAR), [("space", None)])
        self.assertEqual(self.showing(*NO_ROOM), [("room", 1)])
        self.assertEqual(self.showing(*TOO_FEW), [("few", None)])
        self.assertEqual(self.showing(*TOO_MANY), [("many", None)])

    def test_several_at_once(self):
        self.assertEqual(
            self.showing([(30, 20, 1)] * 4, 9, 1, 3),
            [("space", None), ("room", 0), ("room", 1), ("room", 2), ("room", 3), ("few", None)],
        )
        self.assertEqual(self.showing([(1, 1, 1)], 9, 36, 1), [("space", None), ("room", 0), ("many", None)])

    def test_space_at_its_bound(self):
        for space in range(1, 10):
            for ticks in range(1, 12):
                self.assertEqual(self.shows("space", None, [(1, 0, 1)], space, 1, ticks), ticks < space)

    def test_room_at_its_bound(self):
        for room in (1, 2, 9):
            for ticks in (1, 2, 5, 20):
                for stay in range(21):
                    for station in (0, 1):
                        stations = [(1, 0, 1), (1, 0, 1)]
                        stations[station] = (1, stay, room)
                        self.assertEqual(self.shows("room", station, stations, 1, 1, ticks), stay >= room * ticks)
                        self.assertFalse(self.shows("room", 1 - station, stations, 1, 1, ticks))

    def test_few_at_its_bound(self):
        # Rides and stays are 20 in all.
        stations = [(9, 1, 9), (7, 3, 9)]
        self.assertTrue(self.shows("few", None, stations, 1, 1, 19))
        self.assertFalse(self.shows("few", None, stations, 1, 1, 20))
        self.assertFalse(self.shows("few", None, stations, 1, 1, 21))
        self.assertTrue(self.shows("few", None, stations, 1, 6, 3))
        self.assertFalse(self.shows("few", None, stations, 1, 7, 3))

    def test_many_at_its_bound(self):
        # Rides and the longest waits, 2 * 5 - 1 and 1 * 5 - 1, are 30 in all, or 29, or 31.
        self.assertFalse(self.shows("many", None, [(10, 0, 2), (7, 0, 1)], 1, 6, 5))
        self.assertTrue(self.shows("many", None, [(10, 0, 2), (6, 0, 1)], 1, 6, 5))
        self.assertFalse(self.shows("many", None, [(10, 0, 2), (8, 0, 1)], 1, 6, 5))

    def test_other_texts(self):
        for plan in (FREE_PLAN, TOO_NEAR, NO_ROOM, TOO_FEW, TOO_MANY):
            for text in ("", "Space", "rooms", "fe", "many ", "none", "a" * 10000, 0, 1, -1, None, [], [1]):
                for station in (None, 0, 1, -1):
                    self.assertFalse(self.shows(text, station, *plan))

    def test_stations_that_are_none(self):
        for station in ("", "1", [], [1], True, False, 2, -1, GREAT, TOO_GREAT_TO_SHOW, -TOO_GREAT_TO_SHOW):
            self.assertFalse(self.shows("room", station, *NO_ROOM))
            self.assertFalse(self.shows("space", station, *TOO_NEAR))
            self.assertFalse(self.shows("few", station, *TOO_FEW))
            self.assertFalse(self.shows("many", station, *TOO_MANY))
        self.assertFalse(self.shows("room", True, *NO_ROOM))

    def test_by_the_fields_as_they_stand_then(self):
        bars = Bars("room", 0)
        self.assertFalse(bars.shows(*NO_ROOM))
        bars.station = 1
        self.assertTrue(bars.shows(*NO_ROOM))
        bars.text = "few"
        self.assertFalse(bars.shows(*TOO_FEW))
        bars.station = None
        self.assertTrue(bars.shows(*TOO_FEW))

    def test_never_both(self):
        for stations, space, cabins in some_ropes(5, 200):
            many, ticks = max(1, sum(cabins)), 1 + sum(ride for ride, stay, room in stations) % 60
            if self.showing(stations, space, many, ticks):
                for first in range(ticks):
                    rest = many * ticks - sum(ride for ride, stay, room in stations) - first
                    self.assertFalse(Keeps([first] + [rest] * (len(stations) - 1)).shows(stations, space, many, ticks))


# Worked out by hand, as tests/test_ropes.py tells it of FULL_ROW.
ROPE = [(2, 0, 1), (2, 3, 1)], 1
TALE = [
    ("put", 0, 1), ("put", 1, 1), ("go", 1, (1, 0)), ("go", 3, (0, 1)), ("go", 2, (1, 0)), ("stop", 5), ("take", 1, 0),
    ("go", 0, (0, 0)), ("stop", 0), ("go", 1, (0, 0)), ("put", 0, 1), ("go", 3, (1, 0)), ("go", 1, (0, 1)),
]
# What can't come at these lines.
OTHER_LINES = (
    (0, ("put", 0, 0)), (0, ("put", 0, 2)), (0, ("put", 2, 1)), (0, ("put", -1, 1)), (0, ("take", 0, 0)),
    (0, ("put", 0, -1)), (0, ("take", 0, -1)), (0, ("go", 1, (1, 0))), (0, ("go", -1, (0, 0))), (0, ("stop", -1)),
    (0, ("take", -1, 0)), (0, ("put", GREAT, 1)), (0, ("put", -GREAT, 1)), (0, ("put", 0, GREAT)), (0, ("take", 2, 0)),
    (1, ("put", 0, 2)), (1, ("put", 0, 1)), (2, ("go", 1, (0, 0))), (2, ("go", 1, (1, 1))), (2, ("go", 0, (1, 0))),
    (2, ("go", 1, (1, GREAT))), (2, ("go", 1, (-1, 0))), (3, ("go", 2, (0, 1))), (3, ("go", 6, (0, 1))),
    (4, ("go", 1, (1, 0))), (4, ("go", -GREAT, (0, 0))), (5, ("stop", -GREAT)), (6, ("take", 1, 1)),
    (6, ("take", 0, 0)), (6, ("put", 1, 2)), (7, ("go", 0, (1, 0))), (11, ("go", 3, (0, 0))), (12, ("go", 1, (0, 0))),
)
# The row of station 1 is filled by hand when none may be let on there and one hangs before it: it stands for ever,
# until the cabin is taken out again.
BARRED_ROPE = [(2, 0, 2), (9, 0, 1)], 3
BARRED_TALE = [
    ("put", 1, 1), ("put", 0, 1), ("go", 1, (1, 1)), ("put", 1, 1), ("go", GREAT, (0, 0)), ("go", 10 ** 5000, (0, 0)),
    ("take", 1, 0), ("go", 2, (0, 0)), ("go", 1, (0, 1)),
]


class TalesTest(unittest.TestCase):
    def judged_so(self, rope, tale, line):
        """That this line alone is the first one that can't come there, None if each one can."""
        right = Right().shows(*rope, tale)
        self.assertIs(right.__class__, bool)
        self.assertEqual(right, line is None)
        for other in [*range(-2, len(tale) + 3), GREAT, -GREAT, TOO_GREAT_TO_SHOW, -TOO_GREAT_TO_SHOW]:
            wrong = Wrong(other).shows(*rope, tale)
            self.assertIs(wrong.__class__, bool)
            self.assertEqual(wrong, line is not None and line == other)

    def test_a_right_tale_and_its_beginnings(self):
        for end in range(len(TALE) + 1):
            self.judged_so(ROPE, TALE[:end], None)

    def test_the_first_wrong_line(self):
        for at, line in OTHER_LINES:
            with self.subTest(at=at, line=line):
                self.judged_so(ROPE, TALE[:at] + [line] + TALE[at + 1:], at)
                self.judged_so(ROPE, TALE[:at] + [line], at)
                self.judged_so(ROPE, TALE[:at] + [line, ("put", 9, 9), ("stop", -1)], at)

    def test_no_line_at_all(self):
        self.judged_so(ROPE, [], None)

    def test_forty_lines(self):
        self.judged_so(ROPE, [("stop", 1)] * 40, None)
        self.judged_so(ROPE, [("stop", 1)] * 39 + [("stop", -1)], 39)
        self.judged_so(ROPE, [("put", 0, 1), ("take", 0, 0)] * 20, None)
        self.judged_so(ROPE, [("put", 0, 1), ("take", 0, 0)] * 19 + [("put", 0, 1), ("put", 0, 1)], 39)

    def test_rows_up_to_their_rooms(self):
        stations = [(5, 2, 9), (5, 2, 1)]
        puts = [("put", 0, many) for many in range(1, 10)]
        self.judged_so((stations, 1), puts, None)
        self.judged_so((stations, 1), puts + [("put", 0, 10)], 9)
        self.judged_so((stations, 1), puts + [("put", 0, 9)], 9)
        self.judged_so((stations, 1), [("put", 1, 1), ("put", 1, 2)], 1)
        self.judged_so((stations, 1), puts + [("take", 0, many) for many in range(8, -1, -1)] + [("take", 0, 0)], 18)

    def test_very_many_ticks(self):
        # One cabin goes around in 4 ticks and waits 3 of its stay: let on at each station once in 7 ticks.
        tale = [("put", 0, 1), ("go", 7 * GREAT, (GREAT, GREAT)), ("stop", GREAT), ("go", 7 * GREAT, (GREAT, GREAT))]
        self.judged_so(([(2, 0, 1), (2, 3, 1)], 1), tale, None)
        for many in (GREAT - 1, GREAT + 1, 0):
            self.judged_so(ROPE, tale[:1] + [("go", 7 * GREAT, (many, GREAT))], 1)
            self.judged_so(ROPE, tale[:1] + [("go", 7 * GREAT, (GREAT, many))], 1)
        great = TOO_GREAT_TO_SHOW
        tale = [("stop", great), ("go", great, (0, 0)), ("put", 0, 1), ("go", 7 * great, (great, great))]
        self.judged_so(ROPE, tale, None)

    def test_a_rope_that_stands_for_ever_until_it_is_freed(self):
        self.judged_so(BARRED_ROPE, BARRED_TALE, None)
        self.judged_so(BARRED_ROPE, BARRED_TALE[:4] + [("go", GREAT, (0, 1))], 4)
        self.judged_so(BARRED_ROPE, BARRED_TALE[:7] + [("go", 2, (0, 1))], 7)

    def test_a_rope_stopped_by_hand(self):
        # All wait on while it stands, but none is let on and none comes on: let on at once behind it.
        rope = [(3, 4, 2)], 2
        self.judged_so(rope, [("put", 0, 1), ("stop", 3), ("go", 1, (0,)), ("go", 1, (1,))], None)
        start = [("put", 0, 1), ("stop", 4), ("go", 1, (1,)), ("stop", 9)]
        self.judged_so(rope, start + [("put", 0, 1), ("put", 0, 2)], None)
        self.judged_so(rope, start + [("put", 0, 2)], 4)
        # The space is counted by the places that the rope goes, not by ticks.
        start = [("put", 0, 1), ("put", 0, 2), ("stop", 9), ("go", 1, (1,)), ("stop", 9)]
        self.judged_so(rope, start + [("go", 1, (0,)), ("go", 1, (1,))], None)

    def test_the_last_one_of_a_row_is_taken_out(self):
        # The first one has waited 3 ticks, the second one none: the first one stays and is let on in the next tick.
        rope = [(5, 3, 2)], 1
        start = [("put", 0, 1), ("stop", 3), ("put", 0, 2), ("take", 0, 1)]
        self.judged_so(rope, start + [("go", 1, (1,))], None)
        self.judged_so(rope, start + [("go", 1, (0,))], 4)
        # And one that has waited 1 tick is taken out before one that has waited 3.
        start = [("put", 0, 1), ("stop", 2), ("put", 0, 2), ("stop", 1), ("take", 0, 1)]
        self.judged_so(rope, start + [("go", 1, (1,))], None)

    def test_what_is_no_line(self):
        for line in ("", "0", "go", None, [], [0], True, False):
            self.assertIs(Wrong(line).shows(*ROPE, [("stop", -1)]), False)
            self.assertIs(Wrong(line).shows(*ROPE, [("stop", 1), ("stop", -1)]), False)
            self.assertIs(Wrong(line).shows(*ROPE, []), False)

    def test_by_the_field_as_it_stands_then(self):
        tale = [("stop", 1), ("stop", -1)]
        wrong = Wrong(0)
        self.assertFalse(wrong.shows(*ROPE, tale))
        wrong.line = 1
        self.assertTrue(wrong.shows(*ROPE, tale))
        wrong.line += 1
        self.assertFalse(wrong.shows(*ROPE, tale))

    def test_nothing_is_changed_or_kept(self):
        stations, tale = copy.deepcopy(ROPE[0]), copy.deepcopy(TALE)
        right, wrong = Right(), Wrong(2)
        self.assertTrue(right.shows(stations, 1, tale))
        self.assertFalse(wrong.shows(stations, 1, tale))
        self.assertEqual((stations, tale), (ROPE[0], TALE))
        tale[2] = ("go", 1, (0, 0))
        self.assertFalse(right.shows(stations, 1, tale))
        self.assertTrue(wrong.shows(stations, 1, tale))
        stations[0] = (2, 1, 1)
        self.assertFalse(wrong.shows(stations, 1, tale))
        self.assertEqual(vars(right), {})
        self.assertEqual(vars(wrong), {"line": 2})


def numbers_changed(line, chance):
    more = chance.choice([-1, 1, 2, GREAT])
    if line[0] == "go":
        at = chance.randrange(len(line[2]))
        return "go", line[1], line[2][:at] + (line[2][at] + more,) + line[2][at + 1:]
    if line[0] == "stop":
        return "stop", -1 - line[1]
    return line[0], line[1], line[2] + more


class PlainTalesTest(unittest.TestCase):
    def test_tales_of_the_plain_rope_are_right(self):
        chance = random.Random(6)
        for stations, space, cabins in some_ropes(6, 300):
            tale = some_tale(stations, space, chance)
            with self.subTest(rope=(stations, space), tale=tale):
                self.assertTrue(Right().shows(stations, space, tale))
                self.assertIsNone(answers.first_wrong(stations, space, tale))

    def test_with_one_number_changed_they_are_wrong_there(self):
        chance = random.Random(7)
        for stations, space, cabins in some_ropes(7, 300):
            tale = some_tale(stations, space, chance)
            if tale:
                at = chance.randrange(len(tale))
                tale[at] = numbers_changed(tale[at], chance)
                with self.subTest(rope=(stations, space), tale=tale, at=at):
                    self.assertFalse(Right().shows(stations, space, tale))
                    self.assertTrue(Wrong(at).shows(stations, space, tale))


if __name__ == "__main__":
    unittest.main()
