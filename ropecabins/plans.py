"""Even plans: waits by which each station lets one on behind each so many ticks, or what bars them."""

from ropecabins.answers import Bars, Keeps, all_rides, all_stays, has_no_wait
from ropecabins.forms import need_plan


def planned(stations, space, many, ticks):
    """A Keeps with waits of an even plan for so many cabins, or a Bars that shows that there are none."""
    need_plan(stations, space, many, ticks)
    if ticks < space:
        return Bars("space", None)
    for at, triple in enumerate(stations):
        if has_no_wait(triple, ticks):
            return Bars("room", at)
    rest = many * ticks - all_rides(stations) - all_stays(stations)
    if rest < 0:
        return Bars("few", None)
    waits, rest = waits_beyond_stays(stations, ticks, rest)
    return Bars("many", None) if rest else Keeps(waits)


def waits_beyond_stays(stations, ticks, rest):
    """The stays with the rest given out, as much at the first stations as they can hold; and what is left of it."""
    waits = []
    for ride, stay, room in stations:
        more = min(rest, room * ticks - 1 - stay)
        waits.append(stay + more)
        rest -= more
    return waits, rest
