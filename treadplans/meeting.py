"""In common: whether two drafts have a picture in common."""

from heapq import heappop, heappush

from treadplans.cloths import Cloth, check_by
from treadplans.errors import TooMany
from treadplans.fitting import bits_of_ends, misfits

MOST_WAYS = 400


class Beside:
    """A plan of one draft and that of another one, their rows of one length beside one another.

    For each pair of names, one of each plan, marks has some bits; two rows have the bits of all
    pairs that stand beside one another in them. Of threadings they tell just these pairs of ends, of
    treadlings the pairs of ends that do not fit all of these pairs of picks. So two cloths look
    alike just if their ends and their picks have no bit in common, and the fewer bits two rows have,
    the more they are good for.

    bits: one bit for each pair of ends, ascending; told_by_lack: 0 if a set has the pairs whose bits
    are there, or all bits if it has those whose bits are not.
    """

    def __init__(self, plan, second, marks, bits, told_by_lack):
        self.plan = plan
        self.second = second
        self.marks = marks
        self.bits = bits
        self.told_by_lack = told_by_lack

    def bits_at(self, place, name):
        """The bits of a place of the plan with a name of the second one beside it."""
        return self.marks[(self.plan[place], name)]

    def set_of(self, bits):
        """The set of pairs of ends, an ascending tuple, that bits tell."""
        return tuple([ends for ends in self.bits if self.bits[ends] & (bits ^ self.told_by_lack)])

    def bits_of(self, pairs):
        """The bits that tell a set of pairs of ends."""
        return sum([self.bits[ends] for ends in pairs]) ^ self.told_by_lack


def threadings(one, other):
    """The threadings of two drafts beside one another."""
    bits = bits_of_ends(one, other)
    return Beside(one.threading, other.threading, bits, bits, 0)


def treadlings(one, other, by):
    """The treadlings of two drafts beside one another."""
    bits = bits_of_ends(one, other)
    return Beside(one.treadling, other.treadling, misfits(one, other, by), bits, sum([bits[ends] for ends in bits]))


def has_within(several, bits):
    """Whether some of several bits lie within these bits."""
    return any([known & bits == known for known in several])


def least(several):
    """The ascending list of those of several bits within which no other ones lie."""
    found = []
    # Bits that lie within others are less as a number, too, so they come first.
    for bits in sorted(set(several)):
        if not has_within(found, bits):
            found.append(bits)
    return found


def least_ways(beside):
    """The ways of two beginnings of rows, but for those that others to the same two places make needless.

    A way is (bits, place, second place, number of the way that it makes longer by one name, or -1).
    """
    waiting = []
    for place in beside.plan.firsts:
        for second in beside.second.firsts:
            heappush(waiting, (beside.bits_at(place, beside.second[second]), place, second, -1))
    ways = []
    known = {}
    # Bits only grow along a way. So the least number comes first, and none that comes later lies within it.
    while waiting:
        way = heappop(waiting)
        bits, place, second, _ = way
        before = known.get((place, second), [])
        if not has_within(before, bits):
            if len(ways) == MOST_WAYS:
                raise TooMany(MOST_WAYS)
            known[(place, second)] = before + [bits]
            for longer in longer_ways(beside, way, len(ways)):
                heappush(waiting, longer)
            ways.append(way)
    return ways


def longer_ways(beside, way, number):
    """The ways that make a way, which has this number, longer by one name."""
    bits, place, second, _ = way
    return [(bits | beside.bits_at(after, beside.second[beyond]), after, beyond, number)
            for after in beside.plan.next(place) for beyond in beside.second.next(second)]


def whole_ways(beside, ways):
    """The numbers of the ways that come to two places at which both rows can end."""
    return [number for number, way in enumerate(ways)
            if way[1] in beside.plan.lasts and way[2] in beside.second.lasts]


def two_rows(beside, ways, number):
    """The two rows that the way with this number goes along."""
    row = []
    beyond = []
    while number >= 0:
        _, place, second, before = ways[number]
        row.append(beside.plan[place])
        beyond.append(beside.second[second])
        number = before
    return tuple(row[::-1]), tuple(beyond[::-1])


def told_sets(beside, ways):
    """The ascending tuple of the sets that the least bits of whole ways tell."""
    several = least([ways[number][0] for number in whole_ways(beside, ways)])
    return tuple(sorted([beside.set_of(bits) for bits in several]))


def least_sets(one, other):
    """The least sets of pairs of ends that stand beside one another in two rows of one length."""
    beside = threadings(one, other)
    return told_sets(beside, least_ways(beside))


def greatest_sets(one, other, *, by="face"):
    """The greatest sets of pairs of ends that fit all pairs of picks of two rows of one length."""
    check_by(by)
    beside = treadlings(one, other, by)
    return told_sets(beside, least_ways(beside))


def common(one, other, *, by="face"):
    """A cloth of each of two drafts, alike; or, if there are none, the least sets."""
    check_by(by)
    threaded = threadings(one, other)
    treadled = treadlings(one, other, by)
    ends = least_ways(threaded)
    picks = least_ways(treadled)
    for number in whole_ways(threaded, ends):
        for behind in whole_ways(treadled, picks):
            if ends[number][0] & picks[behind][0] == 0:
                row, second = two_rows(threaded, ends, number)
                across, beyond = two_rows(treadled, picks, behind)
                return "cloths", Cloth(one, row, across), Cloth(other, second, beyond)
    return "none", told_sets(threaded, ends)
