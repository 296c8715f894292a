"""Whether a run can have a tale from its beginning on."""

from ropecabins.answers import Right, Wrong, first_wrong
from ropecabins.forms import need_rope_and_tale


def judged(stations, space, tale):
    """A Right if a run can have the tale, or a Wrong with the first line that can't come there."""
    need_rope_and_tale(stations, space, tale)
    line = first_wrong(stations, space, tale)
    return Right() if line is None else Wrong(line)
