"""Cloths: what a draft weaves of one row of ends and one row of picks."""

from treadplans.errors import BadBy, BadRow, BadThread
from treadplans.words import is_within

LOOKS = ("face", "lifts", "both")


def strand_of(draft, name):
    """The kinds of the yarn to which a kind belongs, or the kind alone."""
    for yarn in draft.yarns:
        if name in yarn:
            return yarn
    return (name,)


def lies_over(draft, name, second):
    """Whether the threads of a kind lie over those of a second kind."""
    if name in draft.ends:
        return second in draft.picks and draft.is_above(name, second)
    return second in draft.ends and not draft.is_above(second, name)


def reached(steps, start):
    """All strands to which one comes from a strand, by one step or more."""
    found = {}
    waiting = list(steps[start])
    while waiting:
        strand = waiting.pop()
        if strand not in found:
            found[strand] = True
            waiting.extend(steps[strand])
    return found


def strands_below(draft, names):
    """For each strand of these kinds: those to which one comes, from thread to thread below.

    Threads of one kind lie over the same ones, and the same ones lie over them. So kinds tell it all.
    """
    steps = {}
    for name in names:
        strand = strand_of(draft, name)
        below = [strand_of(draft, second) for second in names if lies_over(draft, name, second)]
        steps[strand] = steps.get(strand, ()) + tuple(below)
    return {start: reached(steps, start) for start in steps}


def kinds_of_part(below, strand):
    """The kinds of all strands from which one comes to a strand and back, its own ones among them."""
    mates = [other for other in below if other == strand or other in below[strand] and strand in below[other]]
    return tuple([name for other in mates for name in other])


def numbers_of(row, names):
    """The ascending tuple of the numbers at which some of the names stand in a row."""
    return tuple([at for at, name in enumerate(row) if name in names])


def parts_of_kinds(ends, picks, names):
    """The parts that have all threads of these kinds: one part, but for a kind alone without a yarn."""
    upright = numbers_of(ends, names)
    across = numbers_of(picks, names)
    if len(names) > 1:
        return [(upright, across)]
    return [((number,), ()) for number in upright] + [((), (number,)) for number in across]


def parts_and_above(draft, ends, picks):
    """The parts of a cloth, and the pairs of parts of which the first one lies above."""
    below = strands_below(draft, sorted(set(ends + picks)))
    strands = {}
    for strand in below:
        for part in parts_of_kinds(ends, picks, kinds_of_part(below, strand)):
            strands[part] = strand
    parts = tuple(sorted(strands))
    several = range(len(parts))
    above = [(one, other) for one in several for other in several
             if one != other and strands[parts[other]] in below[strands[parts[one]]]]
    return parts, tuple(above)


def is_thread(value, ends, picks):
    """Whether any value is a thread of a cloth with these ends and picks."""
    if not isinstance(value, tuple) or len(value) != 2:
        return False
    if value[0] == "end":
        return is_within(value[1], 0, len(ends) - 1)
    return value[0] == "pick" and is_within(value[1], 0, len(picks) - 1)


def stretches(sides):
    """The stretches of equal sides, each as long as it can be: their first and last number, and the side."""
    found = []
    first = 0
    for at, side in enumerate(sides):
        if sides[at + 1:at + 2] != [side]:
            found.append((first, at, side))
            first = at + 1
    return tuple(found)


class Cloth:
    """A row of ends and a row of picks of a draft, woven."""

    def __init__(self, draft, ends, picks):
        if ends not in draft.threading:
            raise BadRow(ends)
        if picks not in draft.treadling:
            raise BadRow(picks)
        lifts = {pick: "".join(["#" if draft.is_above(end, pick) else "." for end in ends]) for pick in draft.picks}
        shown = {pick: tuple([draft.shown(end, pick) for end in ends]) for pick in draft.picks}
        hidden = {pick: tuple([draft.hidden(end, pick) for end in ends]) for pick in draft.picks}
        parts, above = parts_and_above(draft, ends, picks)
        self.draft = draft
        self.ends = ends
        self.picks = picks
        self.lifts = tuple([lifts[pick] for pick in picks])
        self.face = tuple([shown[pick] for pick in picks])
        self.back = tuple([hidden[pick] for pick in picks])
        self.parts = parts
        self.above = above

    def __len__(self):
        return len(self.ends + self.picks)

    def __eq__(self, other):
        return (isinstance(other, Cloth) and self.draft == other.draft
                and self.ends == other.ends and self.picks == other.picks)

    def __invert__(self):
        return Cloth(~self.draft, self.picks, self.ends)

    def floats(self, thread):
        """The stretches of crossings at which a thread lies above, or below: (first, last, side) of each."""
        if not is_thread(thread, self.ends, self.picks):
            raise BadThread(thread)
        sort, number = thread
        if sort == "end":
            return stretches(["face" if row[number] == "#" else "back" for row in self.lifts])
        return stretches(["back" if sign == "#" else "face" for sign in self.lifts[number]])


def is_cloth_of(value, draft):
    """Whether any value is a cloth of a draft."""
    return isinstance(value, Cloth) and value.draft == draft


def check_by(by):
    """Raises BadBy for any value that names no way of looking at crossings."""
    if by not in LOOKS:
        raise BadBy(by)


def look_of(cloth, by):
    """What of a cloth two cloths have alike."""
    if by == "face":
        return cloth.face
    return cloth.lifts if by == "lifts" else (cloth.face, cloth.back)


def alike(cloth, second, *, by="face"):
    """Whether two cloths have equally many ends, and picks, and look alike at each crossing."""
    check_by(by)
    return look_of(cloth, by) == look_of(second, by)
