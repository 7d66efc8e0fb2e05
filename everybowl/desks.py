"""A desk: raised points that change by deeds, which can be undone and done again."""

from everybowl.checks import check_range
from everybowl.errors import NothingDone, NothingUndone, TooMany
from everybowl.floors import Floor, check_point
from everybowl.floorways import travelled
from everybowl.heightways import lifted
from everybowl.linerows import line_row
from everybowl.planerows import high_row, plane_row
from everybowl.raised import Raised, check_height


class Desk:
    """Raised points, what they were before each deed, and what was taken back."""

    def __init__(self, floor, heights):
        self.raised = Raised(floor, heights)
        self.done = 0
        self.undone = 0
        self.running = False
        self._limit = Floor.MOST
        self._before = ()
        self._behind = ()

    def __len__(self):
        return len(self.raised)

    @property
    def lines(self):
        """The line row of the present points."""
        return line_row(self.raised.floor)

    @property
    def planes(self):
        """The plane row of the present raised points."""
        return plane_row(self.raised)

    @property
    def highs(self):
        """The high row of the present raised points."""
        return high_row(self.raised)

    @property
    def limit(self):
        """How many points there may be at most, for a new one to be added."""
        return self._limit

    @limit.setter
    def limit(self, value):
        self._limit = value

    def set_limit(self, limit):
        """Set the limit."""
        check_range(limit, Floor.LEAST, Floor.MOST)
        if len(self) > limit:
            raise TooMany(limit)
        self.limit = limit

    def add(self, x, y, height):
        """Add a raised point at the end, and return its number."""
        check_point((x, y))
        check_height(height)
        if len(self) >= self.limit:
            raise TooMany(self.limit)
        self._do(self.raised.plus((x, y), height))
        return len(self) - 1

    def drop(self, number):
        """Remove a raised point."""
        self._do(self.raised.without(number))

    def move(self, number, x, y):
        """Give a raised point another place."""
        floor = travelled(self.raised.floor, number, x, y)
        self._do(Raised(floor, self.raised.heights))

    def lift(self, number, height):
        """Give a raised point another height."""
        self._do(lifted(self.raised, number, height))

    def undo(self):
        """Take back the last deed."""
        if self.done == 0:
            raise NothingDone()
        self.recall((self._before[-1], self._before[:-1], (*self._behind, self.raised)))

    def redo(self):
        """Do again the deed that was taken back last."""
        if self.undone == 0:
            raise NothingUndone()
        self.recall((self._behind[-1], (*self._before, self.raised), self._behind[:-1]))

    def memory(self):
        """Return the present points, with all that can be undone and done again."""
        return self.raised, self._before, self._behind

    def recall(self, memory):
        """Become what the memory tells."""
        self.raised, self._before, self._behind = memory
        self.done = len(self._before)
        self.undone = len(self._behind)

    def _do(self, raised):
        self.recall((raised, (*self._before, self.raised), ()))
