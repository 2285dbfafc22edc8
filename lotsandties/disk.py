"""Disks: homes and a log, written to by writes that wait until they are sure."""

from lotsandties.errors import BadValue, NoWrite, PlaceBusy
from lotsandties.plan import Plan
from lotsandties.records import fits_plan, is_record
from lotsandties.values import is_cell_row, is_number

MOST_HEAD = 999999


def _is_place(plan, place):
    if not isinstance(place, tuple) or len(place) != 2:
        return False
    if place[0] == "home":
        return is_number(place[1], 0, plan.blocks - 1)
    return place[0] == "log" and is_number(place[1], 0, plan.slots - 1)


def _is_content(plan, place, what):
    if place[0] == "home":
        return is_cell_row(what)
    return is_record(what) and fits_plan(what, plan)


class Disk:
    """The homes of the blocks of a plan, a log, a head, and the pending writes."""

    def __init__(self, plan):
        self.plan = plan
        self.home = [(0,) * Plan.WIDTH for _ in range(plan.blocks)]
        self.log = [None for _ in range(plan.slots)]
        self.head = 0
        self.last = 0
        # From the number of a pending write to its place and content, in the order of issue.
        self._pending = {}

    @classmethod
    def of_image(cls, image):
        """Return a disk with the cells of an image in the homes."""
        disk = cls(image.plan)
        disk.home = [tuple(row) for row in image.cells]
        return disk

    @property
    def quiet(self):
        """Tell if no write is pending."""
        return len(self._pending) == 0

    def issue(self, place, what):
        """Issue a write of a content to a place and return its number."""
        if not _is_place(self.plan, place) or not _is_content(self.plan, place, what):
            raise BadValue("not a place of this disk and a content for it")
        if self.busy(place):
            raise PlaceBusy("a write to the place is pending")
        self.last += 1
        self._pending[self.last] = (place, tuple(what))
        return self.last

    def busy(self, place):
        """Tell if a write to a place is pending."""
        return any(place == taken for taken, _ in self._pending.values())

    def pending(self):
        """Return the pending writes as tuples of number, place and content, in the order of issue."""
        return [(number, place, what) for number, (place, what) in self._pending.items()]

    def sure(self, number):
        """Make a pending write sure."""
        if number not in self._pending:
            raise NoWrite("no such write is pending")
        place, what = self._pending.pop(number)
        self._put(place, what)

    def barrier(self):
        """Make all pending writes sure."""
        for number in list(self._pending):
            self.sure(number)

    def move_head(self, p):
        """Set the head at once."""
        if not is_number(p, 0, MOST_HEAD):
            raise BadValue("not a head")
        self.head = p

    def cut(self, keep=()):
        """Return the disk that is found after a sudden stop that keeps these writes."""
        found = self._settled()
        for k, number in enumerate(keep):
            if number not in self._pending or number in keep[:k]:
                raise NoWrite("no such write is pending, or it is kept twice")
            place, what = self._pending[number]
            found._put(place, what)
        return found

    def twin(self):
        """Return an equal disk that shares nothing with this one."""
        other = self._settled()
        other.last = self.last
        other._pending = {number: write for number, write in self._pending.items()}
        return other

    def _settled(self):
        other = Disk(self.plan)
        other.home = list(self.home)
        other.log = list(self.log)
        other.head = self.head
        return other

    def _put(self, place, what):
        kind, at = place
        if kind == "home":
            self.home[at] = what
        else:
            self.log[at] = what
