"""Looms: threaded with a row of ends, they weave pick by pick."""

from treadplans.cloths import Cloth, check_by, stretches
from treadplans.covering import ending_beside, meet, rows_beside
from treadplans.errors import BadNumber, BadPick, BadPicks, BadRow, NothingToRedo, NothingToUndo, NotNow, NotWhole
from treadplans.meeting import threadings, treadlings
from treadplans.plans import BEFORE
from treadplans.words import is_within


def picks_missing(plan, places):
    """A shortest tuple of names behind some places with which a row ends; () if one can end there."""
    if plan.can_end(places):
        return ()
    starts = [place for _, reached in plan.ways_on(places) for place in reached]
    return plan.names_at(plan.way(starts, plan.lasts))


def face_of(draft, ends, picks):
    """What the face shows: for each pick the tuple of the colours at its crossings."""
    shown = {pick: tuple([draft.shown(end, pick) for end in ends]) for pick in draft.picks}
    return tuple([shown[pick] for pick in picks])


def last_float(draft, end, picks):
    """On which side a kind of ends lies at the last of some picks, and at how many in a row up to there."""
    first, last, side = stretches(["face" if draft.is_above(end, pick) else "back" for pick in picks])[-1]
    return side, last - first + 1


def last_floats(draft, ends, picks):
    """The last float of each end; () if there is no pick."""
    if picks == ():
        return ()
    floats = {end: last_float(draft, end, picks) for end in draft.ends}
    return tuple([floats[end] for end in ends])


def can_begin(upright, beside, picks):
    """Whether the other draft has the beginning of a row of picks that goes, beside these, with an ending of ends."""
    if picks == ():
        return upright != ()
    return meet(upright, [bits for _, bits in rows_beside(beside, picks)])


class Loom:
    """A loom that is threaded with a row of ends.

    A deed is kept as the tuple of the picks that it wove. Those that were undone can be done again, the last one first.
    """

    def __init__(self, draft, ends):
        if ends not in draft.threading:
            raise BadRow(ends)
        self.draft = draft
        self.ends = ends
        self._go_to((), ())

    def __len__(self):
        return len(self.picks)

    def __iter__(self):
        raise TypeError("a loom is asked for its picks one by one")

    def __getitem__(self, at):
        if not is_within(at, 0, len(self.picks) - 1):
            raise BadNumber(at)
        return self.picks[at]

    def __eq__(self, other):
        return (isinstance(other, Loom) and self.draft == other.draft
                and self.ends == other.ends and self.picks == other.picks)

    def __iadd__(self, other):
        self.weave(other)
        return self

    def weave(self, name):
        """Weaves a pick, and returns the tuple of the colours that it shows."""
        self._weave_deed((name,))
        return self.face[-1]

    def weave_all(self, picks):
        """Weaves a tuple of picks as one deed, and returns how many they are."""
        if not isinstance(picks, tuple):
            raise BadPicks(picks)
        self._weave_deed(picks)
        return len(picks)

    def cloth(self):
        """The cloth of the ends and the picks."""
        if not self.is_whole:
            raise NotWhole(self.left)
        return Cloth(self.draft, self.ends, self.picks)

    def finished(self):
        """A shortest tuple of picks by which the picks get a row of the treadling."""
        return picks_missing(self.draft.treadling, self._places())

    def could(self, other, *, by="face"):
        """Whether some cloth of another draft begins with what is woven, and the picks with which one still would."""
        check_by(by)
        upright = ending_beside(threadings(other, self.draft), self.ends)
        beside = treadlings(other, self.draft, by)
        picks = [name for name in self.can if can_begin(upright, beside, self.picks + (name,))]
        return can_begin(upright, beside, self.picks), tuple(picks)

    def undo(self):
        """Undoes the last deed."""
        if self._deeds == ():
            raise NothingToUndo(None)
        self._go_to(self._deeds[:-1], self._undone + self._deeds[-1:])

    def redo(self):
        """Does the deed again that was undone last."""
        if self._undone == ():
            raise NothingToRedo(None)
        self._go_to(self._deeds + self._undone[-1:], self._undone[:-1])

    def tried(self, look, *, keep=False):
        """What look returns for this loom; then all is as before, unless keep is True and look returned."""
        deeds, undone, picks, can = self._deeds, self._undone, self.picks, self.can
        is_whole, left, face, floating = self.is_whole, self.left, self.face, self.floating
        kept = None
        try:
            result = look(self)
            if keep is True:
                kept = True
        finally:
            # Nothing is called here, so that errors of any kind are passed on as they are.
            if kept is None:
                self._deeds, self._undone, self.picks, self.can = deeds, undone, picks, can
                self.is_whole, self.left, self.face, self.floating = is_whole, left, face, floating
        return result

    def copy(self):
        """An independent loom like this one, also in what can be undone and done again."""
        loom = Loom(self.draft, self.ends)
        loom._go_to(self._deeds, self._undone)
        return loom

    def journal(self):
        """The text that tells the draft, the ends, and each deed that was not undone."""
        lines = [f"  {line}" for line in self.draft.text.split("\n")]
        deeds = [" ".join(("weave",) + deed) for deed in self._deeds]
        return "\n".join(["draft"] + lines + [" ".join(("loom",) + self.ends)] + deeds)

    def _places(self):
        """The places of the treadling to which the picks lead."""
        return self.draft.treadling.led_to((BEFORE,), self.picks)

    def _weave_deed(self, picks):
        """Weaves picks as one deed: BadPick, NotNow, with the first one that cannot be woven."""
        places = self._places()
        for name in picks:
            if name not in self.draft.picks:
                raise BadPick(name)
            places = self.draft.treadling.led_to(places, (name,))
            if places == ():
                raise NotNow(name)
        self._go_to(self._deeds + (picks,), ())

    def _go_to(self, deeds, undone):
        """Lets these be the deeds that were done, and those that were undone, and tells all else anew."""
        self._deeds = deeds
        self._undone = undone
        self.picks = tuple([pick for deed in deeds for pick in deed])
        plan = self.draft.treadling
        places = self._places()
        self.can = tuple([name for name, _ in plan.ways_on(places)])
        self.is_whole = plan.can_end(places)
        self.left = len(picks_missing(plan, places))
        self.face = face_of(self.draft, self.ends, self.picks)
        self.floating = last_floats(self.draft, self.ends, self.picks)
