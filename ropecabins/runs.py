"""A rope that is run: cabins are put in and taken out, it goes on or is stopped by hand, and its tale is kept."""

from ropecabins.errors import Empty, Full
from ropecabins.forms import need_rope, need_station, need_ticks
from ropecabins.motion import Motion, Rope


class Run:
    """A rope with no cabin at first. A deed that is refused changes nothing and is not in the tale."""

    def __init__(self, stations, space):
        need_rope(stations, space)
        self.motion = Motion(Rope(stations, space))
        self.lines = []

    def go_on(self, ticks):
        """Let so many ticks go by; told is how many were let on at each station in them."""
        need_ticks(ticks)
        let = self.motion.go_on(ticks)
        self.lines.append(("go", ticks, tuple(let)))
        return let

    def stop(self, ticks):
        """Stop the rope by hand for so many ticks; told is in how many of all ticks it has stood."""
        need_ticks(ticks)
        self.motion.stop(ticks)
        self.lines.append(("stop", ticks))
        return self.motion.still

    def put(self, station):
        """Put in a cabin as the last one of a station's row; told is how many are in the row then."""
        need_station(station, self.motion.rope.stations)
        if self.motion.is_full(station):
            raise Full("the row has as many cabins as its room")
        many = self.motion.put(station)
        self.lines.append(("put", station, many))
        return many

    def take(self, station):
        """Take out the last cabin of a station's row; told is how many are in the row then."""
        need_station(station, self.motion.rope.stations)
        if self.motion.is_empty(station):
            raise Empty("the row has no cabin")
        many = self.motion.take(station)
        self.lines.append(("take", station, many))
        return many

    def stands(self):
        """How it stands: waits in rows, places behind stations, places gone since one was let on."""
        return self.motion.stands()

    def passed(self):
        """How many ticks have gone, those by hand, too."""
        return self.motion.ticks

    def stood(self):
        """In how many of them the rope stood, those by hand, too."""
        return self.motion.still

    def tale(self):
        """All deeds so far, each as a tuple."""
        return list(self.lines)
