"""Points 1, 2, 5, 7, 8, 9, 10 and the interface: what is of its form, and how it is refused."""

import copy
import itertools
import unittest

from ropecabins import errors, forms

GREAT = 10 ** 30
# Python does not turn a number of so many digits into text: no message may try to.
TOO_GREAT_TO_SHOW = 10 ** 6000

THREE = [(5, 2, 3), (1, 0, 1), (30, 20, 9)]
TRIPLE = (5, 2, 3)

NO_NUMBERS = (
    True, False, None, "", "1", "go", b"", b"1", (), (1,), (1, 1, 1), [], [1], [[1]], [(1, 1, 1)],
    {}, {0: 1}, {1: 1}, set(), {1}, frozenset([1]), range(1, 3), object(), int, len, ..., NotImplemented,
    bytearray(b"1"),
)
NO_LISTS = (
    True, False, None, 0, 1, -1, GREAT, -GREAT, TOO_GREAT_TO_SHOW, "", "abc", b"", b"abc", (), (TRIPLE,),
    (1, 1, 1), ((1, 1, 1), (1, 1, 1)), {}, {0: TRIPLE}, {TRIPLE: 0}, set(), {TRIPLE}, range(3), object(), list,
    iter([TRIPLE]), ..., bytearray(b"abc"),
)
NO_TUPLES = (
    True, False, None, 0, 1, GREAT, "", "abc", b"abc", [], [1, 1, 1], [TRIPLE], ["stop", 1], {}, {0: 1, 1: 1, 2: 1},
    {1, 2, 3}, range(1, 4), object(), tuple,
)


def same(one, other):
    """Equal, and of the same kinds: True is no 1."""
    return repr(one) == repr(other) and one == other


class FormTest(unittest.TestCase):
    def taken(self, need, tell, value, *around):
        before = copy.deepcopy((value, around))
        with self.subTest(value=short(value)):
            self.assertIs(tell(value, *around), True)
            self.assertIsNone(need(value, *around))
            self.assertTrue(same((value, around), before))

    def refused(self, kind, need, tell, value, *around):
        kept = copy.copy(value) if isinstance(value, (list, dict, set)) else value
        with self.subTest(value=short(value)):
            self.assertIs(tell(value, *around), False)
            with self.assertRaises(errors.RopeError) as caught:
                need(value, *around)
            self.assertIs(caught.exception.__class__, kind)
            self.assertEqual(value, kept)


def short(value):
    """A very great number can't be shown whole by a failing test either."""
    try:
        return repr(value)[:60]
    except ValueError:
        return "too great to show"


class NumbersTest(unittest.TestCase):
    def test_whole_numbers_are_numbers(self):
        for value in (0, 1, -1, 7, GREAT, -GREAT, TOO_GREAT_TO_SHOW):
            self.assertIs(forms.is_number(value), True)

    def test_true_false_and_other_kinds_are_none(self):
        for value in NO_NUMBERS:
            with self.subTest(value=repr(value)):
                self.assertIs(forms.is_number(value), False)


class StationsTest(FormTest):
    def good(self, value):
        self.taken(forms.need_stations, forms.are_stations, value)

    def bad(self, value):
        self.refused(errors.BadStations, forms.need_stations, forms.are_stations, value)

    def test_ordinary(self):
        for value in ([TRIPLE], [(3, 0, 2), (4, 1, 1)], THREE, THREE + [(7, 7, 7)]):
            self.good(value)

    def test_one_to_four_stations(self):
        for many in (1, 2, 3, 4):
            self.good([TRIPLE] * many)
        for many in (0, 5, 6, 40, 100000):
            self.bad([TRIPLE] * many)

    def test_ride_stay_and_room_have_their_limits(self):
        for place, low, high in ((0, 1, 30), (1, 0, 20), (2, 1, 9)):
            for number in (low, low + 1, high - 1, high):
                for stations in placed(number, place):
                    self.good(stations)
            for number in (low - 1, high + 1, -GREAT, GREAT, TOO_GREAT_TO_SHOW, -TOO_GREAT_TO_SHOW):
                for stations in placed(number, place):
                    self.bad(stations)

    def test_no_number_in_a_triple(self):
        for place in (0, 1, 2):
            for value in NO_NUMBERS:
                for stations in placed(value, place):
                    self.bad(stations)

    def test_a_list_only(self):
        for value in NO_LISTS:
            self.bad(value)

    def test_of_tuples_only(self):
        for value in NO_TUPLES:
            self.bad([value])
            self.bad([TRIPLE, value])
            self.bad([value, TRIPLE, TRIPLE, TRIPLE])

    def test_of_triples_only(self):
        for value in ((), (1,), (1, 1), (1, 1, 1, 1), (TRIPLE,), (TRIPLE, TRIPLE, TRIPLE), tuple([1] * 1000)):
            self.bad([value])
            self.bad([TRIPLE, value])

    def test_nested_lists(self):
        self.bad([[TRIPLE]])
        self.bad([[TRIPLE], [TRIPLE]])
        within = []
        within.append(within)
        self.assertIs(forms.are_stations(within), False)


def placed(number, place):
    """Stations with this number at this place of the first, of the last, of the only triple."""
    triple = list(TRIPLE)
    triple[place] = number
    triple = tuple(triple)
    return [triple], [triple, TRIPLE, TRIPLE, TRIPLE], [TRIPLE, triple]


class CountsTest(FormTest):
    """What is just a number with limits."""

    def limits(self, kind, need, tell, low, high, *around):
        for value in (low, low + 1, (low + high) // 2, high - 1, high):
            self.taken(need, tell, value, *around)
        for value in (low - 1, high + 1, low - 100, high + 100, GREAT, -GREAT, TOO_GREAT_TO_SHOW, -TOO_GREAT_TO_SHOW):
            self.refused(kind, need, tell, value, *around)
        for value in NO_NUMBERS:
            self.refused(kind, need, tell, value, *around)

    def test_space(self):
        self.limits(errors.BadSpace, forms.need_space, forms.is_space, 1, 9)

    def test_count_of_cabins(self):
        self.limits(errors.BadCabins, forms.need_cabin_count, forms.is_cabin_count, 1, 36)

    def test_count_of_ticks_of_a_plan(self):
        self.limits(errors.BadTicks, forms.need_plan_ticks, forms.is_plan_ticks, 1, 60)

    def test_station(self):
        for many in (2, 3, 4):
            stations = [TRIPLE] * many
            self.limits(errors.BadStation, forms.need_station, forms.is_station, 0, many - 1, stations)

    def test_station_of_one(self):
        self.taken(forms.need_station, forms.is_station, 0, [TRIPLE])
        for value in (-1, 1, 2) + NO_NUMBERS:
            self.refused(errors.BadStation, forms.need_station, forms.is_station, value, [TRIPLE])

    def test_ticks_from_0_on(self):
        for value in (0, 1, 2, 60, 61, GREAT, TOO_GREAT_TO_SHOW):
            self.taken_ticks(value)
        for value in (-1, -2, -GREAT, -TOO_GREAT_TO_SHOW) + NO_NUMBERS:
            self.refused(errors.BadTicks, forms.need_ticks, forms.is_ticks, value)

    def taken_ticks(self, value):
        self.assertIs(forms.is_ticks(value), True)
        self.assertIsNone(forms.need_ticks(value))


class CabinsTest(FormTest):
    def good(self, value, stations):
        self.taken(forms.need_cabins, forms.are_cabins, value, stations)

    def bad(self, value, stations):
        self.refused(errors.BadCabins, forms.need_cabins, forms.are_cabins, value, stations)

    def test_from_0_to_each_room(self):
        for value in ([0, 0, 0], [3, 1, 9], [0, 1, 5], [2, 0, 8]):
            self.good(value, THREE)
        for at, room in ((0, 3), (1, 1), (2, 9)):
            for number in (-1, room + 1, -GREAT, GREAT, TOO_GREAT_TO_SHOW):
                value = [0, 0, 0]
                value[at] = number
                self.bad(value, THREE)

    def test_rooms_of_1_and_9(self):
        for room in (1, 9):
            self.good([0], [(5, 0, room)])
            self.good([room], [(5, 0, room)])
            self.bad([-1], [(5, 0, room)])
            self.bad([room + 1], [(5, 0, room)])

    def test_one_number_for_each_station(self):
        for many in (1, 2, 3, 4):
            for length in (0, 1, 2, 3, 4, 5, 1000):
                with_length = self.good if length == many else self.bad
                with_length([0] * length, [TRIPLE] * many)

    def test_no_number_in_the_list(self):
        for value in NO_NUMBERS:
            self.bad([value], [TRIPLE])
            self.bad([0, 0, value], THREE)
            self.bad([value, 0, 0], THREE)

    def test_a_list_only(self):
        for value in NO_LISTS + ((0, 0, 0), [[0, 0, 0]], [(0, 0, 0)], {0: 0, 1: 0, 2: 0}):
            self.bad(value, THREE)
        self.bad((0,), [TRIPLE])


GOOD_LINES = (
    ("go", 3, (1, 0, 2)), ("go", 0, (0, 0, 0)), ("go", -1, (-1, -GREAT, GREAT)), ("go", GREAT, (0, 9, 0)),
    ("stop", 2), ("stop", 0), ("stop", -1), ("stop", GREAT),
    ("put", 0, 1), ("put", 3, 1), ("put", -1, -1), ("put", GREAT, -GREAT),
    ("take", 2, 0), ("take", 4, 10), ("take", -GREAT, GREAT),
)
BAD_LINES = (
    (), ("go",), ("go", 1), ("go", 1, 1), ("go", 1, ()), ("go", 1, (0,)), ("go", 1, (0, 0)), ("go", 1, (0, 0, 0, 0)),
    ("go", 1, [0, 0, 0]), ("go", (0, 0, 0), 1), ("go", 1, (0, 0, 0), 0), ("go", 1, 0, 0, 0), ("go", 1, ((0, 0, 0),)),
    ("go", 1, {0: 0, 1: 0, 2: 0}), ("go", 1, "abc"), ("go", 1, b"abc"), ("go", 1, range(3)), ("go", 1, None),
    ("stop",), ("stop", 1, 1), ("stop", (1,)), ("stop", 1, (0, 0, 0)),
    ("put",), ("put", 0), ("put", 0, 1, 1), ("put", (0, 1)), ("put", 0, (1, 1, 1)),
    ("take",), ("take", 0), ("take", 0, 1, 1), ("take", (0, 1)), ("take", 0, (0, 0, 0)),
    ("Go", 1, (0, 0, 0)), ("GO", 1, (0, 0, 0)), ("go ", 1, (0, 0, 0)), ("", 1), ("stopped", 1), ("sto", 1),
    ("gone", 1, (0, 0, 0)), ("puttake", 0, 1), ("let", 0, 1), (b"stop", 1), (b"put", 0, 1), (("stop", 1),),
    (1, "stop"), (0, 1), (0, 0, 1), (None, 1), (["stop"], 1), ({}, 1), (True, 1), ("stop", "stop"),
)


class TaleTest(FormTest):
    def good(self, value, stations):
        self.taken(forms.need_tale, forms.is_tale, value, stations)

    def bad(self, value, stations):
        self.refused(errors.BadTale, forms.need_tale, forms.is_tale, value, stations)

    def test_each_form_with_any_numbers(self):
        for line in GOOD_LINES:
            self.good([line], THREE)
        self.good(list(GOOD_LINES), THREE)

    def test_very_great_numbers(self):
        great = TOO_GREAT_TO_SHOW
        for line in (("go", great, (great, -great, 0)), ("stop", great), ("put", great, -great), ("take", -great, 1)):
            self.assertIs(forms.is_tale([line], THREE), True)
            self.assertIsNone(forms.need_tale([line], THREE))

    def test_let_has_a_number_for_each_station(self):
        for many in (1, 2, 3, 4):
            for length in (0, 1, 2, 3, 4, 5, 1000):
                with_length = self.good if length == many else self.bad
                with_length([("go", 1, (0,) * length)], [TRIPLE] * many)

    def test_0_to_40_lines(self):
        for many in (0, 1, 39, 40):
            self.good([("stop", 1)] * many, THREE)
        for many in (41, 42, 100000):
            self.bad([("stop", 1)] * many, THREE)

    def test_lines_of_no_form(self):
        for line in BAD_LINES:
            self.bad([line], THREE)
            self.bad([("stop", 1), line], THREE)
            self.bad([line] + [("stop", 1)] * 39, THREE)

    def test_no_number_in_a_line(self):
        for value in NO_NUMBERS:
            for line in (("stop", value), ("put", value, 1), ("put", 0, value), ("take", value, 1), ("take", 0, value),
                         ("go", value, (0, 0, 0)), ("go", 1, (value, 0, 0)), ("go", 1, (0, 0, value))):
                self.bad([line], THREE)

    def test_no_word_ahead(self):
        for value in NO_NUMBERS + (0, 1, GREAT):
            if not same(value, "go"):
                self.bad([(value, 1)], THREE)
                self.bad([(value, 1, 1)], THREE)
                self.bad([(value, 1, (0, 0, 0))], THREE)

    def test_a_list_only(self):
        for value in NO_LISTS + (("stop", 1), (("stop", 1),), {0: ("stop", 1)}, {("stop", 1): 0}):
            self.bad(value, THREE)

    def test_of_tuples_only(self):
        for value in NO_TUPLES + (["stop", 1], ["put", 0, 1], [("stop", 1)], "stop", {"stop": 1}):
            self.bad([value], THREE)
            self.bad([("stop", 1), value], THREE)


STATIONS = (errors.BadStations, THREE, ([], None, [(0, 0, 1)], (TRIPLE,), [list(TRIPLE)], True))
SPACE = (errors.BadSpace, 2, (0, 10, True, None, "2", [2]))
CABINS = (errors.BadCabins, [1, 0, 2], ([], [0, 0], [0, 2, 0], [0, True, 0], (1, 0, 2), None, 3))
TICKS = (errors.BadTicks, GREAT, (-1, True, None, "1", [1]))
STATION = (errors.BadStation, 2, (-1, 3, False, None, "0", (0,)))
COUNT = (errors.BadCabins, 36, (0, 37, True, None, [1, 0, 2], "1"))
PLAN_TICKS = (errors.BadTicks, 60, (0, 61, True, None, "1"))
TALE = (errors.BadTale, [("go", 1, (0, 0, 0)), ("stop", 2)], (None, (), [("go", 1, (0, 0))], [["stop", 1]], True))

# In each row the arguments stand in the order in which their refusals are told.
TOGETHER = (
    (forms.need_rope, (STATIONS, SPACE)),
    (forms.need_start, (STATIONS, SPACE, CABINS)),
    (forms.need_start_and_ticks, (STATIONS, SPACE, CABINS, TICKS)),
    (forms.need_ride, (STATIONS, SPACE, CABINS, TICKS, STATION, STATION)),
    (forms.need_plan, (STATIONS, SPACE, COUNT, PLAN_TICKS)),
    (forms.need_rope_and_tale, (STATIONS, SPACE, TALE)),
)


class TogetherTest(unittest.TestCase):
    def refused(self, kind, need, values):
        before = copy.deepcopy(values)
        with self.subTest(need=need.__name__, values=repr(values)):
            with self.assertRaises(errors.RopeError) as caught:
                need(*values)
            self.assertIs(caught.exception.__class__, kind)
            self.assertTrue(same(values, before))

    def test_all_good(self):
        for need, rows in TOGETHER:
            values = [good for kind, good, bad in rows]
            before = copy.deepcopy(values)
            with self.subTest(need=need.__name__):
                self.assertIsNone(need(*values))
                self.assertTrue(same(values, before))

    def test_one_bad(self):
        for need, rows in TOGETHER:
            for at, (kind, good, bads) in enumerate(rows):
                for bad in bads:
                    values = [row[1] for row in rows]
                    values[at] = bad
                    self.refused(kind, need, values)

    def test_of_two_what_is_told_first(self):
        for need, rows in TOGETHER:
            for one, other in itertools.combinations(range(len(rows)), 2):
                for first, second in itertools.product(rows[one][2], rows[other][2]):
                    values = [row[1] for row in rows]
                    values[one], values[other] = first, second
                    self.refused(rows[one][0], need, values)

    def test_all_bad(self):
        for need, rows in TOGETHER:
            for at in range(5):
                self.refused(errors.BadStations, need, [row[2][at] for row in rows])


if __name__ == "__main__":
    unittest.main()
