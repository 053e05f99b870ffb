"""Fitting: which pairs of ends and pairs of picks of two drafts look alike where they cross."""

from treadplans.cloths import check_by
from treadplans.errors import BadPairs


def look_at(draft, end, pick, by):
    """How a crossing looks."""
    if by == "lifts":
        return draft.is_above(end, pick)
    if by == "face":
        return draft.shown(end, pick)
    return draft.shown(end, pick), draft.hidden(end, pick)


def fits(one, other, ends, picks, by):
    """Whether the crossings of a pair of ends and a pair of picks look alike."""
    return look_at(one, ends[0], picks[0], by) == look_at(other, ends[1], picks[1], by)


def all_pairs(names, others):
    """The ascending list of all pairs of one of the names and one of the others."""
    return sorted([(name, other) for name in names for other in others])


def is_ascending(values):
    """Whether values that can be compared are sorted, without duplicates."""
    return all([before < after for before, after in zip(values, values[1:])])


def is_set(value, pairs):
    """Whether any value is an ascending tuple of some of these pairs."""
    if not isinstance(value, tuple) or not all([pair in pairs for pair in value]):
        return False
    return is_ascending(value)


def fitting_picks(one, other, pairs, *, by="face"):
    """The ascending tuple of all pairs of picks that fit all these pairs of ends."""
    if not is_set(pairs, all_pairs(one.ends, other.ends)):
        raise BadPairs(pairs)
    check_by(by)
    return tuple([picks for picks in all_pairs(one.picks, other.picks)
                  if all([fits(one, other, ends, picks, by) for ends in pairs])])


def fitting_ends(one, other, pairs, *, by="face"):
    """The ascending tuple of all pairs of ends that fit all these pairs of picks."""
    if not is_set(pairs, all_pairs(one.picks, other.picks)):
        raise BadPairs(pairs)
    check_by(by)
    return tuple([ends for ends in all_pairs(one.ends, other.ends)
                  if all([fits(one, other, ends, picks, by) for picks in pairs])])


def bits_of_ends(one, other):
    """A bit for each pair of ends, in ascending order."""
    return {ends: 1 << at for at, ends in enumerate(all_pairs(one.ends, other.ends))}


def misfits(one, other, by):
    """For each pair of picks, in ascending order, the bits of the pairs of ends that do not fit it."""
    bits = bits_of_ends(one, other)
    return {picks: sum([bits[ends] for ends in bits if not fits(one, other, ends, picks, by)])
            for picks in all_pairs(one.picks, other.picks)}


def blocks(one, other, *, by="face"):
    """The ascending tuple of all (ends, picks) each of which is all that fits the other one."""
    check_by(by)
    bits = bits_of_ends(one, other)
    unfit = misfits(one, other, by)
    # What does not fit several pairs of picks is what does not fit one of them.
    found = {0: True}
    for pair in unfit:
        for known in list(found):
            found[known | unfit[pair]] = True
    return tuple(sorted([
        (tuple([ends for ends in bits if bits[ends] & known == 0]),
         tuple([picks for picks in unfit if unfit[picks] & known == unfit[picks]]))
        for known in found]))
