"""Tells whether what is handed in is of its form, and refuses it if it is not.

The functions `is_..` and `are_..` tell it as a truth, whatever they are asked of.
The functions `need_..` raise the error that is told for it, of two the one that is told first.
Those with a second argument `stations` take stations that are known to be such.
No message shows what was handed in: a very great number cannot be shown as text.
"""

from ropecabins.errors import BadCabins, BadSpace, BadStation, BadStations, BadTale, BadTicks

MOST_STATIONS = 4
MOST_RIDE = 30
MOST_STAY = 20
MOST_ROOM = 9
MOST_SPACE = 9
MOST_CABINS = 36
MOST_PLAN_TICKS = 60
MOST_LINES = 40


def is_number(value):
    # True and False are integers to Python, but no numbers here.
    return isinstance(value, int) and not isinstance(value, bool)


def is_within(value, low, high):
    return is_number(value) and low <= value <= high


def are_numbers(values):
    return all([is_number(value) for value in values])


def is_triple(value):
    if not isinstance(value, tuple) or len(value) != 3:
        return False
    ride, stay, room = value
    return is_within(ride, 1, MOST_RIDE) and is_within(stay, 0, MOST_STAY) and is_within(room, 1, MOST_ROOM)


def are_stations(value):
    if not isinstance(value, list) or not 1 <= len(value) <= MOST_STATIONS:
        return False
    return all([is_triple(triple) for triple in value])


def is_space(value):
    return is_within(value, 1, MOST_SPACE)


def are_cabins(value, stations):
    if not isinstance(value, list) or len(value) != len(stations):
        return False
    return all([is_within(many, 0, room) for many, (ride, stay, room) in zip(value, stations)])


def is_ticks(value):
    return is_number(value) and value >= 0


def is_station(value, stations):
    return is_within(value, 0, len(stations) - 1)


def is_cabin_count(value):
    return is_within(value, 1, MOST_CABINS)


def is_plan_ticks(value):
    return is_within(value, 1, MOST_PLAN_TICKS)


def is_let(value, stations):
    return isinstance(value, tuple) and len(value) == len(stations) and are_numbers(value)


def is_line(value, stations):
    if not isinstance(value, tuple) or not value or not isinstance(value[0], str):
        return False
    word = value[0]
    if word == "go":
        return len(value) == 3 and is_number(value[1]) and is_let(value[2], stations)
    if word == "stop":
        return len(value) == 2 and is_number(value[1])
    return word in ("put", "take") and len(value) == 3 and are_numbers(value[1:])


def is_tale(value, stations):
    if not isinstance(value, list) or len(value) > MOST_LINES:
        return False
    return all([is_line(line, stations) for line in value])


def need_stations(value):
    if not are_stations(value):
        raise BadStations("stations are a list of 1 to 4 triples of a ride, a stay and a room")


def need_space(value):
    if not is_space(value):
        raise BadSpace("a space is a number from 1 to 9")


def need_cabins(value, stations):
    if not are_cabins(value, stations):
        raise BadCabins("cabins are a list of a number for each station, from 0 to its room")


def need_ticks(value):
    if not is_ticks(value):
        raise BadTicks("ticks are a number from 0 on")


def need_station(value, stations):
    if not is_station(value, stations):
        raise BadStation("a station is a number from 0 on, less than there are stations")


def need_cabin_count(value):
    if not is_cabin_count(value):
        raise BadCabins("a count of cabins is a number from 1 to 36")


def need_plan_ticks(value):
    if not is_plan_ticks(value):
        raise BadTicks("a count of ticks of a plan is a number from 1 to 60")


def need_tale(value, stations):
    if not is_tale(value, stations):
        raise BadTale("a tale is a list of at most 40 tuples that tell of going, stopping, putting or taking")


def need_rope(stations, space):
    need_stations(stations)
    need_space(space)


def need_start(stations, space, cabins):
    need_rope(stations, space)
    need_cabins(cabins, stations)


def need_start_and_ticks(stations, space, cabins, ticks):
    need_start(stations, space, cabins)
    need_ticks(ticks)


def need_ride(stations, space, cabins, ticks, one, other):
    need_start_and_ticks(stations, space, cabins, ticks)
    need_station(one, stations)
    need_station(other, stations)


def need_plan(stations, space, many, ticks):
    need_rope(stations, space)
    need_cabin_count(many)
    need_plan_ticks(ticks)


def need_rope_and_tale(stations, space, tale):
    need_rope(stations, space)
    need_tale(tale, stations)
