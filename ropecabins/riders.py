"""A rider who goes with a cabin from one station to another, or around to the same one."""

from ropecabins.forms import need_ride
from ropecabins.motion import started


def ride(stations, space, cabins, ticks, one, other):
    """The tick in which the rider is let on and the one in which it is taken off, or None if it never comes there.

    It comes to the one station behind so many ticks. Cabins never overtake each other: the first one let on at a
    station is the first one that was in its row, and so on, and comes to the next row behind those that were there
    at the beginning. So each cabin has its number in each row.
    """
    need_ride(stations, space, cabins, ticks, one, other)
    motion = started(stations, space, cabins)
    motion.go_on(ticks)
    number = motion.let[one] + 1
    while motion.let[one] < number:
        if not goes_on(motion):
            return None
    on = motion.ticks
    number += sum([cabins[at] for at in stations_on_the_way(len(stations), one, other)])
    while motion.let[other] + motion.many[other] < number:
        if not goes_on(motion):
            return None
    return on, motion.ticks


def stations_on_the_way(many, one, other):
    """The stations behind the one, up to the other, which is the last one."""
    # At least one and at most all of them: to the same station it goes all around.
    ahead = (other - one - 1) % many + 1
    return [(one + k) % many for k in range(1, ahead + 1)]


def goes_on(motion):
    """Let one tick go by; told is whether anything came of it. If nothing did, nothing ever will."""
    state, let = motion.state(), list(motion.let)
    motion.tick()
    return motion.state() != state or motion.let != let
