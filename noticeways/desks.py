"""Desks at which houses are decided, one by one."""

from noticeways.asking import best_house
from noticeways.cases import told
from noticeways.checks import check_house, check_index, check_notice, check_truth
from noticeways.errors import NoReading, NothingToUndo, TooMany
from noticeways.kept import kept_numbers, kept_readings
from noticeways.notices import is_house
from noticeways.readings import check_readings


class Desk:
    """A desk at which houses are decided by a notice."""

    MOST = 6

    def __init__(self, notice):
        check_notice(notice)
        check_readings(notice)
        self._notice = notice
        self._decided = ()
        # What was decided ahead of each call that can be taken back.
        self._past = ()

    @property
    def notice(self):
        """The notice."""
        return self._notice

    @property
    def decided(self):
        """The tuple of what was decided, pairs of a house and a truth."""
        return self._decided

    @property
    def left(self):
        """The tuple of the numbers of all readings that go with what was decided."""
        return tuple(kept_numbers(self._notice, self._decided))

    def decide(self, house, truth):
        """Decide a house, and tell how many unlike readings are left."""
        check_house(house)
        check_truth(truth)
        decided = self._decided + ((house, truth),)
        many = len(kept_readings(self._notice, decided))
        if many == 0:
            raise NoReading("no reading would be left")
        if len(decided) > Desk.MOST:
            raise TooMany(Desk.MOST)
        self._go_on(decided)
        return many

    def drop(self, index):
        """Leave out what was decided as the one with an index, and return this pair."""
        check_index(index, len(self._decided))
        pair = self._decided[index]
        self._go_on(self._decided[:index] + self._decided[index + 1:])
        return pair

    def _go_on(self, decided):
        self._past = self._past + (self._decided,)
        self._decided = decided

    def says(self, house):
        """What the readings that are left say of a house: True, False, or None if they do not agree."""
        return told(self._notice, self._decided, house)

    def best(self):
        """The house to ask for next, or None if it is clear what is meant."""
        found = best_house(self._notice, self._decided)
        return None if found is None else found[1]

    def lines(self):
        """A line for each pair that was decided."""
        for house, truth in self._decided:
            counts = " ".join([str(many) for many in house])
            yield f"{counts} yes" if truth else f"{counts} no"

    def undo(self):
        """Take back the last call that decided or dropped something."""
        if len(self._past) == 0:
            raise NothingToUndo("there is nothing to take back")
        self._decided = self._past[-1]
        self._past = self._past[:-1]

    def attempt(self, action):
        """Call a function with the desk; all is as it was if it ends with an error."""
        decided, past = self._decided, self._past
        try:
            result = action(self)
            decided, past = self._decided, self._past
        finally:
            self._decided, self._past = decided, past
        return result

    def __getitem__(self, at):
        check_index(at, len(self._decided))
        return self._decided[at]

    def __contains__(self, x):
        # Python takes True for 1, which no house does.
        return is_house(x) and x in [house for house, _ in self._decided]

    def __len__(self):
        return len(self._decided)

    def __iter__(self):
        raise TypeError("a desk is not iterated over")

    def __bool__(self):
        return bool(len(kept_readings(self._notice, self._decided)) == 1)

    def __eq__(self, other):
        return isinstance(other, Desk) and self._notice == other._notice and self._decided == other._decided
