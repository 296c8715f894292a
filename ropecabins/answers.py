"""The answers about plans and tales, and whether they are right."""

from ropecabins.forms import are_numbers, is_number, is_station
from ropecabins.motion import Motion, Rope


class Answer:
    """Whatever is told of a plan or a tale."""


class Keeps(Answer):
    """Waits, one for each station, that keep an even plan."""

    def __init__(self, waits):
        self.waits = copied(waits)

    def shows(self, stations, space, many, ticks):
        waits = self.waits
        if not isinstance(waits, list) or len(waits) != len(stations) or not are_numbers(waits):
            return False
        if not all([stay <= wait < room * ticks for wait, (ride, stay, room) in zip(waits, stations)]):
            return False
        return all_rides(stations) + sum(waits) == many * ticks and ticks >= space


class Bars(Answer):
    """What shows that there is no even plan."""

    def __init__(self, text, station):
        self.text = copied(text)
        self.station = copied(station)

    def shows(self, stations, space, many, ticks):
        if self.text == "room":
            return is_station(self.station, stations) and has_no_wait(stations[self.station], ticks)
        if self.station is not None:
            return False
        if self.text == "space":
            return ticks < space
        if self.text == "few":
            return many * ticks < all_rides(stations) + all_stays(stations)
        most_waits = sum([room * ticks - 1 for ride, stay, room in stations])
        return self.text == "many" and many * ticks > all_rides(stations) + most_waits


class Right(Answer):
    """A run can have the tale."""

    def shows(self, stations, space, tale):
        return first_wrong(stations, space, tale) is None


class Wrong(Answer):
    """The first line of a tale that can't come there."""

    def __init__(self, line):
        self.line = copied(line)

    def shows(self, stations, space, tale):
        return is_number(self.line) and self.line == first_wrong(stations, space, tale)


def copied(field):
    return list(field) if isinstance(field, list) else field


def all_rides(stations):
    return sum([ride for ride, stay, room in stations])


def all_stays(stations):
    return sum([stay for ride, stay, room in stations])


def has_no_wait(triple, ticks):
    ride, stay, room = triple
    return stay >= room * ticks


def first_wrong(stations, space, tale):
    """The number of the first line that can't come there, or None if each one can."""
    motion = Motion(Rope(stations, space))
    for at, line in enumerate(tale):
        if not comes(motion, line):
            return at
    return None


def comes(motion, line):
    """Let what a line tells come, if it can; told is whether it came so."""
    word, number = line[0], line[1]
    if word in ("go", "stop"):
        return number >= 0 and passes(motion, line)
    if not is_station(number, motion.rope.stations):
        return False
    if word == "put":
        return not motion.is_full(number) and motion.put(number) == line[2]
    return not motion.is_empty(number) and motion.take(number) == line[2]


def passes(motion, line):
    if line[0] == "go":
        return motion.go_on(line[1]) == list(line[2])
    motion.stop(line[1])
    return True
