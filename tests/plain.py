"""A rope by the document's words, cabin by cabin and tick by tick: slow, and with nothing of the package in it."""

import random


class PlainRope:
    def __init__(self, stations, space, cabins=None):
        self.stations = stations
        self.space = space
        self.count = len(stations)
        many = [0] * self.count if cabins is None else cabins
        self.rows = [[{"waited": 0} for k in range(row)] for row in many]
        self.hang = [[] for station in stations]
        self.gone = [None for station in stations]
        self.let = [0 for station in stations]
        self.ticks = 0
        self.stood = 0
        self.events = []

    def tick(self):
        events = []
        for at, (ride, stay, room) in enumerate(self.stations):
            far = self.gone[at] is None or self.gone[at] >= self.space
            if self.rows[at] and self.rows[at][0]["waited"] >= stay and far:
                cabin = self.rows[at].pop(0)
                cabin["place"] = 0
                self.hang[at].append(cabin)
                self.gone[at] = 0
                self.let[at] += 1
                events.append(("on", at, cabin))
        came = [[] for station in self.stations]
        if self.is_barred():
            self.stood += 1
        else:
            self.move(came, events)
        for at, row in enumerate(self.rows):
            for cabin in row:
                cabin["waited"] += 1
            row += came[at]
        self.ticks += 1
        self.events.append(events)

    def following(self, at):
        return (at + 1) % self.count

    def is_barred(self):
        for at, (ride, stay, room) in enumerate(self.stations):
            ahead = self.following(at)
            full = len(self.rows[ahead]) == self.stations[ahead][2]
            if full and any(cabin["place"] + 1 == ride for cabin in self.hang[at]):
                return True
        return False

    def move(self, came, events):
        for at, (ride, stay, room) in enumerate(self.stations):
            if self.gone[at] is not None:
                self.gone[at] += 1
            for cabin in list(self.hang[at]):
                cabin["place"] += 1
                if cabin["place"] == ride:
                    self.hang[at].remove(cabin)
                    cabin["waited"] = 0
                    came[self.following(at)].append(cabin)
                    events.append(("off", self.following(at), cabin))

    def go(self, ticks):
        before = list(self.let)
        for k in range(ticks):
            self.tick()
        return tuple(now - then for now, then in zip(self.let, before))

    def leap(self, ticks):
        """As `go`, of any many ticks: from when it stands as it stood before, all comes as it came."""
        before, seen, end = list(self.let), {}, self.ticks + ticks
        while self.ticks < end:
            stands = repr(self.stands())
            if stands in seen:
                then, let, stood = seen[stands]
                rounds = (end - self.ticks) // (self.ticks - then)
                self.let = [now + rounds * (now - early) for now, early in zip(self.let, let)]
                self.stood += rounds * (self.stood - stood)
                self.ticks += rounds * (self.ticks - then)
                self.go(end - self.ticks)
            else:
                seen[stands] = self.ticks, list(self.let), self.stood
                self.tick()
        return tuple(now - then for now, then in zip(self.let, before))

    def stop(self, ticks):
        for row in self.rows:
            for cabin in row:
                cabin["waited"] += ticks
        self.ticks += ticks
        self.stood += ticks

    def put(self, at):
        self.rows[at].append({"waited": 0})
        return len(self.rows[at])

    def take(self, at):
        self.rows[at].pop()
        return len(self.rows[at])

    def stands(self):
        waits = [
            [min(cabin["waited"], stay) for cabin in row] for row, (ride, stay, room) in zip(self.rows, self.stations)
        ]
        places = [sorted((cabin["place"] for cabin in hang), reverse=True) for hang in self.hang]
        gone = [[self.space if many is None else min(many, self.space)] for many in self.gone]
        return waits, places, gone


class PlainPast:
    """All that came until a rope stood as it stood before."""

    def __init__(self, stations, space, cabins):
        rope = PlainRope(stations, space, cabins)
        seen, self.stands, self.let, self.stood = {}, [], [], []
        while repr(rope.stands()) not in seen:
            seen[repr(rope.stands())] = rope.ticks
            self.keep(rope)
            rope.tick()
        self.keep(rope)
        self.start = seen[repr(rope.stands())]
        self.length = rope.ticks - self.start

    def keep(self, rope):
        self.stands.append(rope.stands())
        self.let.append(list(rope.let))
        self.stood.append(rope.stood)

    def at(self, ticks):
        """How it stands, how many were let on and in how many ticks the rope stood, behind any many ticks."""
        if ticks < self.start:
            return self.stands[ticks], self.let[ticks], self.stood[ticks]
        rounds, rest = divmod(ticks - self.start, self.length)
        early, last = self.start + rest, self.start + self.length
        let = [now + rounds * (b - a) for now, a, b in zip(self.let[early], self.let[self.start], self.let[last])]
        return self.stands[early], let, self.stood[early] + rounds * (self.stood[last] - self.stood[self.start])


def plain_first_wrong(stations, space, tale):
    """The number of the first line that can't come there, None if each one can."""
    rope = PlainRope(stations, space)
    for at, line in enumerate(tale):
        if not plainly_comes(rope, *line):
            return at
    return None


def plainly_comes(rope, word, number, told=None):
    if word == "go":
        return number >= 0 and rope.leap(number) == told
    if word == "stop":
        if number >= 0:
            rope.stop(number)
        return number >= 0
    if number not in range(rope.count):
        return False
    if word == "put":
        return len(rope.rows[number]) < rope.stations[number][2] and rope.put(number) == told
    return len(rope.rows[number]) > 0 and rope.take(number) == told


def some_tale(stations, space, chance):
    """A right tale, told by the plain rope."""
    rope, tale = PlainRope(stations, space), []
    for k in range(chance.randint(0, 40)):
        at, deed = chance.randrange(len(stations)), chance.randrange(6)
        ticks = chance.choice([0, 1, chance.randrange(8), chance.randrange(60)])
        if deed == 0:
            rope.stop(ticks)
            tale.append(("stop", ticks))
        elif deed == 1 and rope.rows[at]:
            tale.append(("take", at, rope.take(at)))
        elif deed < 4 and len(rope.rows[at]) < stations[at][2]:
            tale.append(("put", at, rope.put(at)))
        else:
            tale.append(("go", ticks, rope.go(ticks)))
    return tale


def some_ropes(seed, many):
    """Ropes of all sizes, small ones more often, some of them full of cabins."""
    chance = random.Random(seed)
    for k in range(many):
        stations = [
            (
                chance.randint(1, chance.choice([2, 6, 30])),
                chance.randint(0, chance.choice([1, 4, 20])),
                chance.randint(1, chance.choice([2, 9])),
            )
            for at in range(chance.randint(1, 4))
        ]
        full = chance.randrange(2)
        cabins = [room - chance.randint(0, 1) if full else chance.randint(0, room) for ride, stay, room in stations]
        yield stations, chance.choice([1, 1, 2, 3, chance.randint(1, 9)]), cabins
