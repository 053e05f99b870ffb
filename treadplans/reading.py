"""Read back: which cloths show a picture of which only some crossings are known."""

from treadplans.cloths import Cloth
from treadplans.errors import BadPicture
from treadplans.plans import BEFORE
from treadplans.words import is_name

MOST_THREADS = 7


class Group:
    """Several rows of one length: how many they are, one of them, and for each number bits of the kinds there."""

    def __init__(self, many, row, kinds):
        self.many = many
        self.row = row
        self.kinds = kinds


def together(group, second):
    """The group of the rows of two groups, of which the first one can be None."""
    if group is None:
        return second
    kinds = tuple([bits | others for bits, others in zip(group.kinds, second.kinds)])
    return Group(group.many + second.many, group.row, kinds)


def is_line(value):
    """Whether any value is a line of a picture."""
    if not isinstance(value, tuple) or not 1 <= len(value) <= MOST_THREADS:
        return False
    return all([colour is None or is_name(colour) for colour in value])


def is_picture(value):
    """Whether any value is a picture."""
    if not isinstance(value, tuple) or not 1 <= len(value) <= MOST_THREADS:
        return False
    return all([is_line(line) for line in value]) and len({len(line) for line in value}) == 1


def bits_of_kinds(names):
    """A bit for each kind of a sort."""
    return {name: 1 << at for at, name in enumerate(names)}


def picks_left(draft, picture, number, end):
    """For each line of a picture the bits of the picks that show what is known of it where they cross this end."""
    bits = bits_of_kinds(draft.picks)
    return tuple([sum([bits[pick] for pick in draft.picks if line[number] in (None, draft.shown(end, pick))])
                  for line in picture])


def groups_of_ends(draft, picture):
    """The rows of ends that leave some picks to each line of a picture, in one group for all that leave the same.

    A dict: for each line the bits of the picks that are left, and the group.
    """
    plan = draft.threading
    bits = bits_of_kinds(draft.ends)
    every = tuple([(1 << len(draft.picks)) - 1 for _ in picture])
    groups = {((BEFORE,), every): Group(1, (), ())}
    for number in range(len(picture[0])):
        leaves = {name: picks_left(draft, picture, number, name) for name in plan.names}
        longer = {}
        for places, left in groups:
            group = groups[(places, left)]
            for end, reached in plan.ways_on(places):
                state = (reached, tuple([picks & others for picks, others in zip(left, leaves[end])]))
                if 0 not in state[1]:
                    added = Group(group.many, group.row + (end,), group.kinds + (bits[end],))
                    longer[state] = together(longer.get(state), added)
        groups = longer
    whole = {}
    for places, left in groups:
        if plan.can_end(places):
            whole[left] = together(whole.get(left), groups[(places, left)])
    return whole


def group_of_picks(draft, places, left, known):
    """The group of the ends of rows of picks behind some places that have one of the picks left at each line; or None.

    known: the groups that were told before, as rows that go on alike are asked for again and again.
    """
    plan = draft.treadling
    if left == ():
        return Group(1, (), ()) if plan.can_end(places) else None
    if (places, left) not in known:
        bits = bits_of_kinds(draft.picks)
        found = None
        for pick, reached in plan.ways_on(places):
            behind = group_of_picks(draft, reached, left[1:], known) if bits[pick] & left[0] else None
            if behind is not None:
                added = Group(behind.many, (pick,) + behind.row, (bits[pick],) + behind.kinds)
                found = together(found, added)
        known[(places, left)] = found
    return known[(places, left)]


def groups_of_cloths(draft, picture):
    """All pairs of a group of ends and a group of picks that show a picture; no two pairs have a cloth in common."""
    if not is_picture(picture):
        raise BadPicture(picture)
    ends = groups_of_ends(draft, picture)
    known = {}
    pairs = [(ends[left], group_of_picks(draft, (BEFORE,), left, known)) for left in ends]
    return [(group, second) for group, second in pairs if second is not None]


def read(draft, picture):
    """A cloth of the draft that shows all known colours of a picture, or None."""
    pairs = groups_of_cloths(draft, picture)
    if not pairs:
        return None
    group, second = pairs[0]
    return Cloth(draft, group.row, second.row)


def readings(draft, picture):
    """How many cloths of the draft show all known colours of a picture."""
    return sum([group.many * second.many for group, second in groups_of_cloths(draft, picture)])


def colours_shown(draft, crossed):
    """All colours where an end and a pick cross, for pairs of the bits of the kinds that both can be of."""
    ends = bits_of_kinds(draft.ends)
    picks = bits_of_kinds(draft.picks)
    return sorted({draft.shown(end, pick) for upright, across in crossed
                   for end in ends if ends[end] & upright for pick in picks if picks[pick] & across})


def filled(draft, picture):
    """The picture with each colour that all cloths show that show what is known; None if there are none."""
    pairs = groups_of_cloths(draft, picture)
    if not pairs:
        return None
    return tuple([tuple([filled_at(draft, pairs, number, at) for at in range(len(picture[0]))])
                  for number in range(len(picture))])


def filled_at(draft, pairs, number, at):
    """The colour that all cloths of these groups show at a pick and an end, or None."""
    crossed = sorted({(group.kinds[at], second.kinds[number]) for group, second in pairs})
    colours = colours_shown(draft, crossed)
    return colours[0] if len(colours) == 1 else None
