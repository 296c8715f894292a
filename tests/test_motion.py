"""The motion that the rest is built on: what is put in and taken out, stopped by hand, gone on with in leaps."""

import random
import unittest

from ropecabins.motion import MOST_MARKS, Motion, Past, Rope, started
from tests.plain import PlainPast, PlainRope, some_ropes

GREAT = 10 ** 30
LONG = ([(15, 20, 3), (2, 9, 4), (22, 10, 9)], 2, [3, 4, 9])


def told(motion):
    return motion.stands(), motion.let, motion.ticks, motion.still, motion.many


def plainly_told(rope):
    return rope.stands(), rope.let, rope.ticks, rope.stood, [len(row) for row in rope.rows]


class DeedsTest(unittest.TestCase):
    def test_all_deeds_agree_with_the_plain_rope(self):
        chance = random.Random(8)
        for stations, space, cabins in some_ropes(8, 150):
            motion, plain = started(stations, space, cabins), PlainRope(stations, space, cabins)
            for k in range(40):
                at, deed = chance.randrange(len(stations)), chance.randrange(5)
                ticks = chance.choice([0, 1, chance.randrange(8), chance.randrange(90)])
                if deed == 0:
                    motion.stop(ticks)
                    plain.stop(ticks)
                elif deed == 1 and plain.rows[at]:
                    self.assertEqual(motion.take(at), plain.take(at))
                elif deed == 2 and len(plain.rows[at]) < stations[at][2]:
                    self.assertEqual(motion.put(at), plain.put(at))
                else:
                    self.assertEqual(motion.go_on(ticks), list(plain.go(ticks)))
                self.assertEqual(told(motion), plainly_told(plain))

    def test_stopped_for_very_long(self):
        motion = started([(3, 20, 2), (3, 1, 2)], 4, [2, 1])
        motion.stop(GREAT)
        self.assertEqual(told(motion), (([[20, 20], [1]], [[], []], [[4], [4]]), [0, 0], GREAT, GREAT, [2, 1]))
        self.assertEqual(motion.go_on(1), [1, 1])

    def test_a_rope_barred_for_ever(self):
        motion = Motion(Rope([(2, 0, 2), (9, 0, 1)], 3))
        motion.put(0)
        motion.put(1)
        self.assertEqual(motion.go_on(1), [1, 1])
        motion.put(1)
        stands = ([[], [0]], [[1], [1]], [[1], [1]])
        for ticks in (0, 1, 2, GREAT, 10 * GREAT):
            before = motion.still
            self.assertEqual(motion.go_on(ticks), [0, 0])
            self.assertEqual(motion.still, before + ticks)
            self.assertEqual(motion.stands(), stands)
        mark = Past().seek(motion, None)
        self.assertEqual(motion.ticks - mark.ticks, 1)
        motion.take(1)
        self.assertEqual(motion.go_on(2), [0, 0])
        self.assertEqual(motion.stands(), ([[], [0]], [[], [3]], [[3], [3]]))
        self.assertEqual(motion.go_on(1), [0, 1])


class MarksTest(unittest.TestCase):
    def test_a_twin_goes_its_own_way(self):
        motion = started(*LONG)
        motion.go_on(30)
        before = told(motion.twin())
        twin = motion.twin()
        self.assertEqual(told(twin), told(motion))
        twin.go_on(10)
        twin.put(0)
        self.assertEqual(told(motion), before)

    def test_there_are_never_many_marks(self):
        motion = started(*LONG)
        past = Past()
        for end in range(0, 5500, 100):
            self.assertIsNone(past.seek(motion, end))
            self.assertLessEqual(len(past.marks), MOST_MARKS)
            ticks = [mark.ticks for mark in past.marks.values()]
            self.assertEqual(ticks, list(range(0, motion.ticks, past.step)))
        mark = past.seek(motion, None)
        self.assertEqual(motion.ticks - mark.ticks, 2459)
        self.assertEqual(mark.state(), motion.state())

    def test_how_it_was_between_marks(self):
        plain = PlainPast(*LONG)
        motion = started(*LONG)
        past = Past()
        past.seek(motion, None)
        self.assertGreater(past.step, 1)
        for ticks in (0, 1, 2, 7, 8, 9, 2000, 3001, 5500, 5567):
            early = past.motion_at(ticks)
            self.assertEqual(early.ticks, ticks)
            self.assertEqual(early.stands(), plain.stands[ticks])
            self.assertEqual(early.let, plain.let[ticks])

    def test_many_steps_and_one_leap_come_to_the_same(self):
        for rope in some_ropes(9, 40):
            leap, steps = started(*rope), started(*rope)
            leap.go_on(GREAT + 700)
            for ticks in (1, 99, 600, GREAT):
                steps.go_on(ticks)
            self.assertEqual(told(leap), told(steps))


if __name__ == "__main__":
    unittest.main()
