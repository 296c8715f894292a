"""Points 1, 10 and the interface: tales, judged to the first line."""

import copy
import random
import unittest

from ropecabins import errors
from ropecabins.answers import Answer, Right, Wrong
from ropecabins.runs import Run
from ropecabins.tales import judged
from tests.plain import plain_first_wrong, some_ropes, some_tale

GREAT = 10 ** 30
TOO_GREAT_TO_SHOW = 10 ** 6000

# Worked out by hand in tests/test_runs.py.
ONE_STATION = [(3, 1, 2)], 2
ONE_STATION_TALE = [
    ("put", 0, 1), ("put", 0, 2), ("go", 2, (1,)), ("stop", 4), ("go", 1, (0,)), ("stop", 1), ("go", 1, (1,)),
    ("put", 0, 2), ("take", 0, 1), ("take", 0, 0), ("go", 0, (0,)), ("stop", 0), ("go", 10, (2,)),
]
# The row of station 1 is filled while none may be let on there: the rope stands for ever, until one is taken out.
BARRED = [(2, 0, 2), (9, 0, 1)], 3
BARRED_TALE = [
    ("put", 1, 1), ("put", 0, 1), ("go", 1, (1, 1)), ("put", 1, 1), ("go", GREAT, (0, 0)), ("take", 1, 0),
    ("go", 1, (0, 0)), ("go", 2, (0, 1)),
]


def with_number(line, at, number):
    """The line with another number at one place; those of `let` are counted behind the first two."""
    if line[0] == "go" and at > 1:
        return line[:2] + (line[2][:at - 2] + (number,) + line[2][at - 1:],)
    return line[:at] + (number,) + line[at + 1:]


def numbers_of(line):
    return list(line[1:2]) + list(line[2]) if line[0] == "go" else list(line[1:])


def other_lines(line, numbers):
    """The line with each of its numbers changed in each way."""
    for at, number in enumerate(numbers_of(line), start=1):
        for other in numbers(number):
            yield with_number(line, at, other)


class TalesTest(unittest.TestCase):
    def told(self, line, stations, space, tale):
        """Told is a Right if the line is None, else a Wrong with this line; and it shows itself."""
        answer = judged(stations, space, tale)
        self.assertIsInstance(answer, Answer)
        if line is None:
            self.assertIs(answer.__class__, Right)
            self.assertEqual(vars(answer), {})
        else:
            self.assertIs(answer.__class__, Wrong)
            self.assertEqual(vars(answer), {"line": line})
            self.assertIs(answer.line.__class__, int)
        self.assertIs(answer.shows(stations, space, tale), True)
        return answer


class ByHandTest(TalesTest):
    def test_right_tales_and_their_beginnings(self):
        for rope, tale in ((ONE_STATION, ONE_STATION_TALE), (BARRED, BARRED_TALE)):
            for end in range(len(tale) + 1):
                self.told(None, *rope, tale[:end])

    def test_the_empty_tale(self):
        for stations in ([(1, 0, 1)], [(30, 20, 9)] * 4):
            self.told(None, stations, 1, [])

    def test_a_line_left_out(self):
        for rope, tale, lines in (
            (ONE_STATION, ONE_STATION_TALE, (0, 5, 3, None, 5, None, None, 7, 8, 11, None, None, None)),
            (BARRED, BARRED_TALE, (1, 1, 2, 3, None, 6, 6, None)),
        ):
            for at, line in enumerate(lines):
                with self.subTest(rope=rope, without=at):
                    self.told(line, *rope, tale[:at] + tale[at + 1:])

    def test_two_exchanged(self):
        tale = ONE_STATION_TALE
        for at, line in enumerate((0, 2, 4, None, None, None, None, 7, 8, None, None, None)):
            with self.subTest(at=at):
                self.told(line, *ONE_STATION, tale[:at] + [tale[at + 1], tale[at]] + tale[at + 2:])

    def test_stations_beyond_and_below_0(self):
        for many in (1, 2, 3, 4):
            stations = [(3, 1, 2)] * many
            start = [("put", at, 1) for at in range(many)]
            self.told(None, stations, 2, start)
            for station in (many, many + 1, -1, -many, -many - 1, GREAT, -GREAT, TOO_GREAT_TO_SHOW):
                for count in (0, 1, 2):
                    self.told(many, stations, 2, start + [("put", station, count)])
                    self.told(many, stations, 2, start + [("take", station, count), ("stop", 1)])

    def test_a_row_that_is_full_or_empty(self):
        for room in (1, 2, 9):
            stations = [(30, 20, 9), (30, 20, room)]
            puts = [("put", 1, many) for many in range(1, room + 1)]
            takes = [("take", 1, many) for many in range(room - 1, -1, -1)]
            self.told(None, stations, 9, puts + takes)
            for many in (-1, 0, 1, room - 1, room, room + 1, GREAT):
                self.told(room, stations, 9, puts + [("put", 1, many)])
                self.told(2 * room, stations, 9, puts + takes + [("take", 1, many)])
                self.told(0, stations, 9, [("take", 1, many)] + puts)

    def test_let_with_other_numbers(self):
        for at in (2, 4, 6, 10, 12):
            for many in (-GREAT, -1, 0, 1, 2, 3, GREAT, TOO_GREAT_TO_SHOW):
                tale = list(ONE_STATION_TALE)
                tale[at] = ("go", tale[at][1], (many,))
                self.told(None if tale[at] == ONE_STATION_TALE[at] else at, *ONE_STATION, tale)

    def test_ticks_below_0(self):
        for ticks in (-1, -2, -GREAT, -TOO_GREAT_TO_SHOW):
            for at in range(len(BARRED_TALE) + 1):
                for line in (("stop", ticks), ("go", ticks, (0, 0)), ("go", ticks, (-1, 0))):
                    self.told(at, *BARRED, BARRED_TALE[:at] + [line] + BARRED_TALE[at:])

    def test_very_many_ticks(self):
        # One cabin goes around in 4 ticks and waits 3: let on at each station once in 7 ticks.
        rope = [(2, 0, 1), (2, 3, 1)], 1
        for great in (10 ** 20, GREAT, GREAT ** 5, TOO_GREAT_TO_SHOW):
            tale = [("put", 0, 1)] + [("go", 7 * great, (great, great)), ("stop", great)] * 19
            self.told(None, *rope, tale)
            self.told(39, *rope, tale + [("go", 1, (0, 0))])
            for many in (great - 1, great + 1):
                self.told(3, *rope, tale[:3] + [("go", 7 * great, (many, great))] + tale[4:])
                self.told(37, *rope, tale[:37] + [("go", 7 * great, (great, many))] + tale[38:])
            self.told(5, *rope, tale[:5] + [("go", 7 * great + 1, (great, great))] + tale[6:])
            self.told(5, *rope, tale[:5] + [("go", 7 * great - 4, (great, great))] + tale[6:])

    def test_forty_lines(self):
        tale = [("put", 0, 1), ("take", 0, 0)] * 20
        self.told(None, *ONE_STATION, tale)
        for at in range(40):
            self.told(at, *ONE_STATION, tale[:at] + [("stop", -1)] + tale[at + 1:])
            self.told(at, *ONE_STATION, tale[:at] + [tale[at][:2] + (2,)] + tale[at + 1:])

    def test_it_is_the_first_line_that_is_told(self):
        bad = [("stop", -1), ("put", 1, 1), ("take", 0, 5), ("go", 3, (-1,)), ("put", 0, 9)]
        for at in range(len(ONE_STATION_TALE)):
            for line in bad:
                self.told(at, *ONE_STATION, ONE_STATION_TALE[:at] + [line] + bad + ONE_STATION_TALE[at + 1:])


class ManyTalesTest(TalesTest):
    def as_plainly(self, stations, space, tale):
        line = plain_first_wrong(stations, space, tale)
        with self.subTest(rope=(stations, space), tale=tale):
            self.told(line, stations, space, tale)
        return line

    def test_tales_of_runs_are_right(self):
        chance = random.Random(31)
        for stations, space, cabins in some_ropes(31, 100):
            run = Run(stations, space)
            while len(run.tale()) < 40:
                at, ticks = chance.randrange(len(stations)), chance.choice([0, 1, 2, 9, chance.randrange(200)])
                deed, handed = chance.choice([(run.put, at), (run.take, at), (run.stop, ticks), (run.go_on, ticks)])
                try:
                    deed(handed)
                except (errors.Full, errors.Empty):
                    continue
                if len(run.tale()) in (1, 20, 40):
                    self.told(None, stations, space, run.tale())
            run.go_on(1)
            with self.assertRaises(errors.BadTale):
                judged(stations, space, run.tale())

    def test_a_line_left_out_or_two_exchanged(self):
        chance = random.Random(32)
        wrong = 0
        for stations, space, cabins in some_ropes(32, 150):
            tale = some_tale(stations, space, chance)
            for at in sorted(chance.sample(range(len(tale)), min(5, len(tale)))):
                wrong += self.as_plainly(stations, space, tale[:at] + tale[at + 1:]) is not None
                other = chance.randrange(len(tale))
                mixed = list(tale)
                mixed[at], mixed[other] = tale[other], tale[at]
                wrong += self.as_plainly(stations, space, mixed) is not None
        self.assertGreater(wrong, 300)

    def test_each_number_one_more_and_one_less(self):
        self.each_number(33, lambda number: (number - 1, number + 1))

    def test_each_number_below_0_and_very_great(self):
        self.each_number(34, lambda number: (-1, -1 - number, -GREAT, GREAT, GREAT ** 5))

    def each_number(self, seed, numbers):
        chance = random.Random(seed)
        wrong = 0
        for stations, space, cabins in some_ropes(seed, 60):
            tale = some_tale(stations, space, chance)
            for at in sorted(chance.sample(range(len(tale)), min(6, len(tale)))):
                for line in other_lines(tale[at], numbers):
                    changed = tale[:at] + [line] + tale[at + 1:]
                    # The plain rope takes long for as many ticks on a great rope.
                    if line[0] != "go" or line[1] < 1000 or len(stations) < 3:
                        wrong += self.as_plainly(stations, space, changed) is not None
        self.assertGreater(wrong, 300)

    def test_of_other_tales_and_stations_what_is_due(self):
        chance = random.Random(35)
        ropes = [(stations, space) for stations, space, cabins in some_ropes(35, 40) if len(stations) == 2]
        tales = []
        for stations, space in ropes:
            tale = some_tale(stations, space, chance)[:12]
            tales += [tale, tale[:3], tale[:6] + [("stop", -1)]]
        for rope in ropes:
            for tale in tales:
                line = plain_first_wrong(*rope, tale)
                self.assertIs(Right().shows(*rope, tale), line is None)
                for other in (0, 1, 2, 6, line or 0):
                    self.assertIs(Wrong(other).shows(*rope, tale), line == other)
        self.assertGreater(len(tales), 10)

    def test_the_answer_of_one_tale_asked_of_others(self):
        right, wrong = judged(*ONE_STATION, ONE_STATION_TALE), judged(*ONE_STATION, [("stop", 1), ("stop", -1)])
        for tale, line in (
            ([], None), ([("stop", 1)], None), ([("stop", -1)], 0), ([("stop", 0), ("take", 0, 0)], 1),
            ([("put", 0, 1), ("put", 0, 1)], 1), ([("put", 0, 1), ("put", 0, 2), ("put", 0, 3)], 2),
        ):
            self.assertIs(right.shows(*ONE_STATION, tale), line is None)
            self.assertIs(wrong.shows(*ONE_STATION, tale), line == 1)
        two = [("put", 0, 1), ("put", 0, 2)]
        self.assertIs(right.shows([(3, 1, 2)], 2, two), True)
        self.assertIs(right.shows([(3, 1, 1)], 2, two), False)
        self.assertIs(wrong.shows([(3, 1, 1)], 2, two), True)
        self.assertIs(wrong.shows([(3, 1, 2)], 2, two), False)


class NewnessTest(TalesTest):
    def test_nothing_handed_in_is_changed_or_kept(self):
        stations, tale = copy.deepcopy(BARRED[0]), copy.deepcopy(BARRED_TALE)
        for at in range(len(tale)):
            answer = judged(stations, 3, tale)
            self.assertIs(answer.__class__, Right)
            self.assertEqual((stations, tale), (BARRED[0], BARRED_TALE))
            tale[at] = ("stop", -1)
            self.assertFalse(answer.shows(stations, 3, tale))
            self.told(at, stations, 3, tale)
            tale[at] = BARRED_TALE[at]
            self.told(None, stations, 3, tale)
        stations[1] = (9, 0, 2)
        self.told(4, stations, 3, tale)
        stations[1] = (9, 0, 1)
        self.told(None, stations, 3, tale)

    def test_an_answer_may_be_changed(self):
        tale = [("stop", 1), ("stop", -1)]
        answer = judged(*ONE_STATION, tale)
        answer.line = 0
        self.assertFalse(answer.shows(*ONE_STATION, tale))
        self.told(1, *ONE_STATION, tale)


if __name__ == "__main__":
    unittest.main()
