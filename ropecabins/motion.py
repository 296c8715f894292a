"""A rope in motion: how it stands, and what comes of it tick by tick.

How it stands is kept as three numbers, so that one step serves all cabins, and two standings are compared at once:

- `hanging`: a bit for each place of the rope, those behind station 0 first, then those behind station 1, and so on;
- `gone`: as many bits for each station as the space: bit k if the rope has gone k places since one was let on there
  last, none if it has gone as many as the space, or more, or none ever was;
- `waiting`: a digit for each station and each count of ticks from 0 to its stay: how many of its row have waited so
  many, at the stay so many or more. A room is less than what a digit can hold.

All that is handed in here is known to be of its form.
"""

from ropecabins.forms import MOST_STAY

DIGIT_BITS = 4
WHOLE_DIGIT = 15
MOST_MARKS = 1000


class Gate:
    """Where one station stands in the three numbers, and its room."""

    def __init__(self, place, place_before, since, space, wait, stay, room):
        self.first_place = 1 << place
        self.last_place_before = 1 << place_before
        self.just_let = 1 << since
        self.too_near = ((1 << space) - 1) << since
        self.one_new = 1 << wait
        self.one_ready = 1 << (wait + DIGIT_BITS * stay)
        self.all_ready = WHOLE_DIGIT * self.one_ready
        self.room = room


def gates_of(stations, space):
    places = sum([ride for ride, stay, room in stations])
    gates, place, wait = [], 0, 0
    for at, (ride, stay, room) in enumerate(stations):
        gates.append(Gate(place, (place - 1) % places, at * space, space, wait, stay, room))
        place += ride
        wait += DIGIT_BITS * (stay + 1)
    return gates


class Rope:
    """What stays the same while a rope goes."""

    def __init__(self, stations, space):
        self.stations = list(stations)
        self.space = space
        self.gates = gates_of(stations, space)
        self.places = sum([ride for ride, stay, room in stations])
        self.all_places = (1 << self.places) - 1
        self.first_places = sum([gate.first_place for gate in self.gates])
        self.last_places = sum([gate.last_place_before for gate in self.gates])
        self.not_just_let = sum([gate.too_near - gate.just_let for gate in self.gates])
        self.ready = sum([gate.all_ready for gate in self.gates])
        self.not_ready = sum([gate.one_ready - gate.one_new for gate in self.gates])


class Motion:
    """How a rope stands, and what came so far.

    That is: how many ticks, in how many of them it stood, how many were let on at each station and are in its row.
    """

    def __init__(self, rope):
        self.rope = rope
        self.hanging = 0
        self.gone = 0
        self.waiting = 0
        self.ticks = 0
        self.still = 0
        self.let = [0 for gate in rope.gates]
        self.many = [0 for gate in rope.gates]

    def twin(self):
        other = Motion(self.rope)
        other.hanging, other.gone, other.waiting = self.state()
        other.ticks, other.still = self.ticks, self.still
        other.let, other.many = list(self.let), list(self.many)
        return other

    def state(self):
        """How it stands, for comparing: what comes of it depends on nothing else."""
        return self.hanging, self.gone, self.waiting

    def tick(self):
        self.let_on_ready()
        came = 0
        if self.is_barred():
            self.still += 1
        else:
            came = self.move()
        # Those that come now have waited 0 ticks, so the others wait first.
        self.wait()
        if came:
            self.take_off(came)
        self.ticks += 1

    def let_on_ready(self):
        for at, gate in enumerate(self.rope.gates):
            if self.waiting & gate.all_ready and not self.gone & gate.too_near:
                self.waiting -= gate.one_ready
                self.hanging |= gate.first_place
                self.gone |= gate.just_let
                self.many[at] -= 1
                self.let[at] += 1

    def is_barred(self):
        if not self.hanging & self.rope.last_places:
            return False
        for at, gate in enumerate(self.rope.gates):
            if self.hanging & gate.last_place_before and self.many[at] >= gate.room:
                return True
        return False

    def move(self):
        """The rope goes on by one place; told are the first places behind stations that a cabin has come to."""
        rope = self.rope
        hanging = self.hanging << 1
        # Behind the last place of all comes the first one.
        hanging = (hanging | (hanging >> rope.places)) & rope.all_places
        # None hangs at a first place when the rope has gone on, so what is there has come from the station before.
        came = hanging & rope.first_places
        self.hanging = hanging - came
        self.gone = (self.gone << 1) & rope.not_just_let
        return came

    def wait(self):
        """Each cabin in a row has waited one tick more; from the stay on it is not counted further."""
        rope = self.rope
        self.waiting = ((self.waiting & rope.not_ready) << DIGIT_BITS) + (self.waiting & rope.ready)

    def take_off(self, came):
        for at, gate in enumerate(self.rope.gates):
            if came & gate.first_place:
                self.put(at)

    def is_full(self, at):
        return self.many[at] >= self.rope.gates[at].room

    def is_empty(self, at):
        return self.many[at] == 0

    def put(self, at):
        """Put in a cabin as the last one of a row that has room; told is how many are in it then."""
        self.waiting += self.rope.gates[at].one_new
        self.many[at] += 1
        return self.many[at]

    def take(self, at):
        """Take out the last cabin of a row that has one; told is how many are in it then."""
        one = self.rope.gates[at].one_new
        # The last one of a row is among those that have waited least.
        while not self.waiting & (WHOLE_DIGIT * one):
            one <<= DIGIT_BITS
        self.waiting -= one
        self.many[at] -= 1
        return self.many[at]

    def stop(self, ticks):
        """The rope is stopped by hand for so many ticks."""
        # Behind as many ticks as the longest stay there is no row that changes any more.
        for k in range(min(ticks, MOST_STAY)):
            self.wait()
        self.ticks += ticks
        self.still += ticks

    def go_on(self, ticks):
        """Let so many ticks go by; told is how many were let on at each station in them."""
        before = list(self.let)
        end = self.ticks + ticks
        mark = Past().seek(self, end)
        if mark is not None:
            self.repeat(mark, end)
        while self.ticks < end:
            self.tick()
        return [now - then for now, then in zip(self.let, before)]

    def repeat(self, mark, end):
        """It stands as at the mark: all that came since comes again, as often as it ends no later than told."""
        length = self.ticks - mark.ticks
        times = (end - self.ticks) // length
        self.ticks += times * length
        self.still += times * (self.still - mark.still)
        self.let = [now + times * (now - then) for now, then in zip(self.let, mark.let)]

    def stands(self):
        return self.rows_told(), self.places_told(), self.gone_told()

    def rows_told(self):
        rows = []
        for gate, (ride, stay, room) in zip(self.rope.gates, self.rope.stations):
            row = []
            for ticks in range(stay, -1, -1):
                digit = self.waiting // (gate.one_new << (DIGIT_BITS * ticks)) & WHOLE_DIGIT
                row += [ticks] * digit
            rows.append(row)
        return rows

    def places_told(self):
        return [
            [place for place in range(ride - 1, -1, -1) if self.hanging & (gate.first_place << place)]
            for gate, (ride, stay, room) in zip(self.rope.gates, self.rope.stations)
        ]

    def gone_told(self):
        space = self.rope.space
        return [
            [places for places in range(space) if self.gone & (gate.just_let << places)] or [space]
            for gate in self.rope.gates
        ]


class Past:
    """Marks of how a motion stood, one each `step` ticks; the longer it goes, the fewer of all ticks have one."""

    def __init__(self):
        self.step = 1
        self.marks = {}

    def seek(self, motion, end):
        """Go on until it stands as at a mark, which is told, or, with None told, until so many ticks have gone in all.

        Without an end (None) it comes to a mark for sure.
        """
        while motion.ticks != end:
            state = motion.state()
            if state in self.marks:
                return self.marks[state]
            if motion.ticks % self.step == 0:
                self.keep(motion)
            motion.tick()
        return None

    def keep(self, motion):
        self.marks[motion.state()] = motion.twin()
        if len(self.marks) > MOST_MARKS:
            self.step *= 2
            self.marks = {state: mark for state, mark in self.marks.items() if mark.ticks % self.step == 0}

    def motion_at(self, ticks):
        """A motion as it was when so many ticks had gone in all, not before the first mark."""
        # Marks are kept in the order of their ticks.
        early = [mark for mark in self.marks.values() if mark.ticks <= ticks]
        motion = early[-1].twin()
        while motion.ticks < ticks:
            motion.tick()
        return motion


def started(stations, space, cabins):
    """The motion of a rope at its beginning, with so many cabins in each row."""
    motion = Motion(Rope(stations, space))
    for at, many in enumerate(cabins):
        for k in range(many):
            motion.put(at)
    return motion
