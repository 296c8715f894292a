"""What comes of a rope and its cabins: behind any many ticks, and until it stands as it stood before."""

from ropecabins.forms import need_start, need_start_and_ticks
from ropecabins.motion import Past, started


def after(stations, space, cabins, ticks):
    """How it stands behind so many ticks: waits in rows, places behind stations, places gone since one was let on."""
    return gone_on(stations, space, cabins, ticks).stands()


def let_on(stations, space, cabins, ticks):
    """How many were let on at each station in so many ticks."""
    return gone_on(stations, space, cabins, ticks).let


def stood(stations, space, cabins, ticks):
    """In how many of so many ticks the rope stood."""
    return gone_on(stations, space, cabins, ticks).still


def gone_on(stations, space, cabins, ticks):
    need_start_and_ticks(stations, space, cabins, ticks)
    motion = started(stations, space, cabins)
    motion.go_on(ticks)
    return motion


def settled(stations, space, cabins):
    """The least count of ticks behind which it stands as it will again, and behind how many more it first does."""
    need_start(stations, space, cabins)
    motion = started(stations, space, cabins)
    past = Past()
    mark = past.seek(motion, None)
    length = motion.ticks - mark.ticks
    # Had it stood so again at the mark before this one, that one would have been found first.
    early = past.motion_at(max(0, mark.ticks - past.step))
    late = past.motion_at(early.ticks + length)
    while early.state() != late.state():
        early.tick()
        late.tick()
    return early.ticks, length


def rate(stations, space, cabins):
    """How many are let on at each station in how many ticks, as it goes when it has settled, in lowest terms."""
    need_start(stations, space, cabins)
    motion = started(stations, space, cabins)
    mark = Past().seek(motion, None)
    return lowest(motion.let[0] - mark.let[0], motion.ticks - mark.ticks)


def lowest(many, ticks):
    common, rest = ticks, many
    while rest:
        common, rest = rest, common % rest
    return many // common, ticks // common
