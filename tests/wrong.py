"""For each kind of argument: one that is of its form, those just within, and many that are of none."""

from ropecabins import errors

GREAT = 10 ** 30
# Python does not turn a number of so many digits into text: no message may try to.
TOO_GREAT_TO_SHOW = 10 ** 6000

NO_NUMBERS = (
    None, True, False, "", "1", "1\n", b"1", [], [1], [1, 1, 1, 1], (), (1,), (5, 2, 3), {}, {1: 1}, {1}, range(2),
    object(), int,
)
FAR_BEYOND = (GREAT, -GREAT, TOO_GREAT_TO_SHOW, -TOO_GREAT_TO_SHOW)
NO_LISTS = (
    None, True, False, 0, 1, 4, -1, GREAT, TOO_GREAT_TO_SHOW, "", "abcd", b"abcd", (), (1, 1, 1, 1), ((5, 2, 3),) * 4,
    {}, {0: 1, 1: 1, 2: 1, 3: 1}, {1, 2}, range(4), object(), list,
)
NO_TUPLES = (
    None, True, 0, 1, GREAT, "", "abc", "go", b"abc", [], [5, 2, 3], {}, {5: 1, 2: 1, 3: 1}, range(3), {5, 2, 3},
)

FOUR = [(5, 2, 3), (1, 0, 1), (30, 20, 9), (7, 4, 2)]
FORTY = [("put", 0, 1), ("go", 2, (0, 0, 0, 0)), ("stop", 1), ("take", 0, 0)] * 10


def with_one(values, at, value):
    """The same, but for one place."""
    return values[:at] + (value,) + values[at + 1:] if isinstance(values, tuple) else (
        values[:at] + [value] + values[at + 1:]
    )


def no_number_within(low, high):
    return (low - 1, high + 1, *FAR_BEYOND, *NO_NUMBERS)


def bad_triples(triple):
    found = [*NO_TUPLES, (), triple[:1], triple[:2], (*triple, 1), (triple,), (triple, triple, triple)]
    for at, (low, high) in enumerate(((1, 30), (0, 20), (1, 9))):
        found += [with_one(triple, at, number) for number in no_number_within(low, high)]
    return found


def bad_stations():
    found = [*NO_LISTS, [], [*FOUR, FOUR[0]], FOUR * 100, [FOUR], [[]], [()]]
    return found + [with_one(FOUR, at, triple) for at in range(4) for triple in bad_triples(FOUR[at])]


def bad_cabins():
    found = [*NO_LISTS, [], [0] * 3, [0] * 5, [[0] * 4], [[0], [0], [0], [0]]]
    for at, (ride, stay, room) in enumerate(FOUR):
        found += [with_one([0, 0, 0, 0], at, number) for number in no_number_within(0, room)]
    return found


def bad_lines():
    none = (0, 0, 0, 0)
    found = [*NO_TUPLES, (), ("go",), ("go", 1), ("go", 1, none, 0), ("stop",), ("stop", 1, 1), ("put", 0), ("put",)]
    found += [("put", 0, 1, 1), ("take",), ("take", 0), ("take", 0, 0, 0), ["stop", 1], ["put", 0, 1], ["go", 1, none]]
    found += [["take", 0, 0], ("stop", none), ("put", 0, none), ("go", none, 1), ("stop", 1, none), (("stop", 1),)]
    for word in ("go\n", "\ngo", "go ", "Go", "g", "gone", "", b"go", None, 0, True, ["go"], ("go",)):
        found.append((word, 1, none))
    for word in ("stop\n", "stop ", "Stop", "sto", "stopped", "", "go", b"stop", None, 1, ("stop",), {}):
        found.append((word, 1))
    for word in ("put\n", "take\n", " put", "TAKE", "puttake", "", "let", "stop", b"put", None, 0, [], {"put": 1}):
        found.append((word, 0, 1))
    for let in ((), (0,), (0, 0, 0), (0, 0, 0, 0, 0), [0, 0, 0, 0], (none,), {0: 0, 1: 0, 2: 0, 3: 0}, "0000", 0, None):
        found.append(("go", 1, let))
    for value in NO_NUMBERS:
        found += [("go", value, none), ("stop", value), ("put", value, 1), ("put", 0, value), ("take", value, 0)]
        found += [("take", 0, value), *[("go", 1, with_one(none, at, value)) for at in range(4)]]
    return found


def bad_tales():
    found = [*NO_LISTS, tuple(FORTY), [*FORTY, ("stop", 1)], [("stop", 1)] * 41, FORTY * 100, [FORTY], [[]], [()]]
    lines = bad_lines()
    found += [[line] for line in lines]
    # Each bad line at some places of forty, and at each place some bad ones.
    found += [with_one(FORTY, place, line) for at, line in enumerate(lines) for place in (at % 40, (7 * at + 39) % 40)]
    return found + [with_one(FORTY, at, line) for at in range(40) for line in (("stop\n", 1), ["stop", 1], ("go", 1))]


def good_stations():
    found = [[triple] * many for many in (1, 2, 3, 4) for triple in ((1, 0, 1), (30, 20, 9))]
    for at in range(4):
        for place, bounds in enumerate(((1, 30), (0, 20), (1, 9))):
            found += [with_one([(5, 2, 3)] * 4, at, with_one((5, 2, 3), place, number)) for number in bounds]
    return found


class Kind:
    """One kind of argument: what it is refused with, one that is good, others just within, and bad ones."""

    def __init__(self, error, good, within, bad):
        self.error, self.good, self.within, self.bad = error, good, within, bad


STATIONS = Kind(errors.BadStations, FOUR, [], bad_stations())
SPACE = Kind(errors.BadSpace, 4, [1, 9], no_number_within(1, 9))
CABINS = Kind(errors.BadCabins, [3, 0, 1, 2], [[0, 0, 0, 0], [3, 1, 9, 2], [0, 1, 0, 2]], bad_cabins())
TICKS = Kind(errors.BadTicks, 7, [0, 1, GREAT, TOO_GREAT_TO_SHOW], (-1, -2, -GREAT, -TOO_GREAT_TO_SHOW, *NO_NUMBERS))
STATION = Kind(errors.BadStation, 2, [0, 1, 3], no_number_within(0, 3))
COUNT = Kind(errors.BadCabins, 5, [1, 36], no_number_within(1, 36))
PLAN_TICKS = Kind(errors.BadTicks, 20, [1, 60], no_number_within(1, 60))
TALE = Kind(errors.BadTale, FORTY, [[], FORTY[:1], FORTY[:39]], bad_tales())
