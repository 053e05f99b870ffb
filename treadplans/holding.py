"""Holding together: whether some cloth of a draft falls apart, which kinds come apart, and what mends it."""

from treadplans.cloths import Cloth, is_cloth_of, kinds_of_part, lies_over, numbers_of, strand_of, strands_below
from treadplans.fitting import all_pairs, is_ascending
from treadplans.words import is_within


def names_of_row(row, name):
    """The ascending names of a row, and behind them this name once more if it stands in the row more than once."""
    more = (name,) if row.count(name) > 1 else ()
    return tuple(sorted(set(row))) + more


def rows_by_names(plan, name):
    """For the names of each row, with one name told twice where it stands twice, a shortest row that has them."""
    rows = {}
    waiting = [(place, (plan[place],)) for place in plan.firsts]
    at = 0
    while at < len(waiting):
        place, row = waiting[at]
        state = (place, names_of_row(row, name))
        if state not in rows:
            rows[state] = row
            waiting.extend([(after, row + (plan[after],)) for after in plan.next(place)])
        at = at + 1
    return {names: rows[(last, names)] for last, names in rows if last in plan.lasts}


def top_kinds(draft, names):
    """The kinds of a part, of all threads of these kinds, that lies below no other part."""
    below = strands_below(draft, names)
    tops = [strand for strand in below
            if all([other in below[strand] for other in below if strand in below[other]])]
    return kinds_of_part(below, tops[0])


def holds(draft):
    """Whether each cloth has one part; otherwise one that has several, and what can be lifted off it."""
    ends = rows_by_names(draft.threading, None)
    picks = rows_by_names(draft.treadling, None)
    for upright in ends:
        for across in picks:
            # Which threads are in one part depends on the kinds alone that stand in a cloth.
            top = top_kinds(draft, upright + across)
            if not all([name in top for name in upright + across]):
                cloth = Cloth(draft, ends[upright], picks[across])
                return "falls", cloth, numbers_of(cloth.ends, top), numbers_of(cloth.picks, top)
    return ("holds",)


def are_numbers(value, row):
    """Whether any value is an ascending tuple of numbers of a row."""
    if not isinstance(value, tuple) or not all([is_within(number, 0, len(row) - 1) for number in value]):
        return False
    return is_ascending(value)


def kinds_at(row, numbers):
    """The kinds that stand in a row at these numbers, and those that stand at others."""
    inside = sorted({name for at, name in enumerate(row) if at in numbers})
    return inside, sorted({name for at, name in enumerate(row) if at not in numbers})


def can_be_lifted(cloth, ends, picks):
    """Whether these threads are not all and not none, with each yarn whole, and no other one lies over them."""
    upright, left = kinds_at(cloth.ends, ends)
    across, beyond = kinds_at(cloth.picks, picks)
    inside = upright + across
    outside = left + beyond
    if inside == [] or outside == []:
        return False
    draft = cloth.draft
    yarns = [strand_of(draft, name) for name in inside if len(strand_of(draft, name)) > 1]
    if any([strand_of(draft, name) in yarns for name in outside]):
        return False
    return not any([lies_over(draft, name, second) for name in outside for second in inside])


def shows_holds(draft, value):
    """Whether any value is a correct result of holds."""
    if not isinstance(value, tuple):
        return False
    if value == ("holds",):
        return holds(draft) == value
    if len(value) != 4 or value[0] != "falls" or not is_cloth_of(value[1], draft):
        return False
    _, cloth, ends, picks = value
    return are_numbers(ends, cloth.ends) and are_numbers(picks, cloth.picks) and can_be_lifted(cloth, ends, picks)


def are_together(draft, names, name, second):
    """Whether, in a cloth of these names, all threads of two kinds are in one part."""
    strand = strand_of(draft, name)
    other = strand_of(draft, second)
    if strand == other and len(strand) > 1:
        return True
    below = strands_below(draft, names)
    return other in below[strand] and strand in below[other]


def have_both(names, name, second):
    """Whether these names have a name and a second one, the name twice if it is the second one, too."""
    return name in names and second in names and (name != second or names.count(name) > 1)


def threads_of(cloth, name):
    """All threads of a kind."""
    upright = [("end", number) for number in numbers_of(cloth.ends, (name,))]
    return upright + [("pick", number) for number in numbers_of(cloth.picks, (name,))]


def apart(draft, name, second):
    """A cloth that has two threads of these kinds in different parts, and the threads; or that there is none."""
    for kind in (name, second):
        draft.kinds_beside(kind)
    ends = rows_by_names(draft.threading, name)
    picks = rows_by_names(draft.treadling, name)
    for upright in ends:
        for across in picks:
            names = upright + across
            if have_both(names, name, second) and not are_together(draft, names, name, second):
                cloth = Cloth(draft, ends[upright], picks[across])
                return "cloth", cloth, threads_of(cloth, name)[0], threads_of(cloth, second)[-1]
    return ("never",)


def mends(draft):
    """The ascending tuple of all (end, pick) such that, flipped there, each cloth of the draft has one part."""
    return tuple([(end, pick) for end, pick in all_pairs(draft.ends, draft.picks)
                  if holds(draft.flipped(end, pick)) == ("holds",)])
