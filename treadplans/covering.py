"""Covering: whether one draft shows each picture that another one can show."""

from treadplans.cloths import Cloth, check_by, is_cloth_of
from treadplans.errors import TooMany
from treadplans.fitting import is_ascending, is_set
from treadplans.meeting import least, threadings, treadlings
from treadplans.words import is_within

MOST_ROWS = 3000


def first_rows(beside, name):
    """The places at which the first plan can begin beside a name of the second one, with their bits."""
    return tuple([(place, beside.bits_at(place, name)) for place in beside.plan.firsts])


def later_rows(beside, rows, name):
    """The places, with their least bits, to which rows lead beside one more name of the second plan."""
    found = {}
    for place, bits in rows:
        for after in beside.plan.next(place):
            found.setdefault(after, []).append(bits | beside.bits_at(after, name))
    return tuple([(after, bits) for after in sorted(found) for bits in least(found[after])])


def full_stands(beside):
    """All different full stands, those of shorter beginnings first, each with the one before it, or None."""
    second = beside.second
    before = {(place, first_rows(beside, second[place])): None for place in second.firsts}
    stands = list(before)
    many = sum([len(stand[1]) for stand in stands])
    at = 0
    while at < len(stands) and many <= MOST_ROWS:
        place, rows = stands[at]
        for after in second.next(place):
            stand = (after, later_rows(beside, rows, second[after]))
            if stand not in before:
                before[stand] = stands[at]
                stands.append(stand)
                many = many + len(stand[1])
        at = at + 1
    if many > MOST_ROWS:
        raise TooMany(MOST_ROWS)
    return before


def row_up_to(beside, before, stand):
    """The names of the second plan that lead to a full stand."""
    row = []
    while stand is not None:
        row.append(beside.second[stand[0]])
        stand = before[stand]
    return tuple(row[::-1])


def ending(beside, rows):
    """The least bits with which the first plan can end at one of the rows."""
    return tuple(least([bits for place, bits in rows if place in beside.plan.lasts]))


def endings(beside, stands):
    """All different endings of stands at which the second plan can end, each with its first stand."""
    found = {}
    for place, rows in stands:
        if place in beside.second.lasts:
            found.setdefault(ending(beside, rows), (place, rows))
    return found


def meet(upright, across):
    """Whether some bits of an ending of ends have none in common with some of an ending of picks."""
    for bits in upright:
        for others in across:
            if bits & others == 0:
                return True
    return False


def unmet(ends, picks):
    """All pairs of an ending of ends and one of picks that do not meet."""
    return [(upright, across) for upright in ends for across in picks if not meet(upright, across)]


def shortest_rows(beside, before):
    """For each different ending of full stands the first of the shortest rows that lead to it."""
    found = endings(beside, before)
    return {told: row_up_to(beside, before, found[told]) for told in found}


def told_stands(beside, stands):
    """The ascending tuple of stands as a paper has them, with sets of pairs in the place of bits."""
    return tuple(sorted([
        (place, tuple(sorted([(first, beside.set_of(bits)) for first, bits in rows])))
        for place, rows in stands]))


def covers(one, other, *, by="face"):
    """Whether to each cloth of other there is one of one that looks like it: a paper, or a smallest cloth."""
    check_by(by)
    threaded = threadings(one, other)
    treadled = treadlings(one, other, by)
    stands_of_ends = full_stands(threaded)
    stands_of_picks = full_stands(treadled)
    ends = shortest_rows(threaded, stands_of_ends)
    picks = shortest_rows(treadled, stands_of_picks)
    missing = [(len(ends[upright] + picks[across]), ends[upright], picks[across])
               for upright, across in unmet(ends, picks)]
    if missing:
        _, row, across = min(missing)
        return "not", Cloth(other, row, across)
    return "covers", told_stands(threaded, stands_of_ends), told_stands(treadled, stands_of_picks)


def is_row(value, beside):
    """Whether any value is a row of a stand."""
    if not isinstance(value, tuple) or len(value) != 2:
        return False
    return is_within(value[0], 0, len(beside.plan) - 1) and is_set(value[1], list(beside.bits))


def is_rows(value, beside):
    """Whether any value is an ascending tuple of rows of a stand."""
    if not isinstance(value, tuple) or not all([is_row(row, beside) for row in value]):
        return False
    return is_ascending(value)


def is_stand(value, beside):
    """Whether any value is a stand."""
    if not isinstance(value, tuple) or len(value) != 2:
        return False
    return is_within(value[0], 0, len(beside.second) - 1) and is_rows(value[1], beside)


def stands_in_bits(beside, value):
    """The stands that any value tells, as full stands are kept, with bits; None if it tells none."""
    if not isinstance(value, tuple) or not all([is_stand(stand, beside) for stand in value]):
        return None
    return {(place, tuple(sorted([(first, beside.bits_of(pairs)) for first, pairs in rows]))): True
            for place, rows in value}


def are_led_by(rows, later):
    """Whether to each of the later rows there is one of the rows at its place, with its bits alone."""
    for place, bits in later:
        if not any([first == place and known & bits == known for first, known in rows]):
            return False
    return True


def has_stand(stands, place, rows):
    """Whether some stand at a place has only rows to which these rows lead."""
    # Most papers have the very stand that is asked for, and then none needs to be searched.
    if (place, rows) in stands:
        return True
    for known, later in stands:
        if known == place and are_led_by(rows, later):
            return True
    return False


def go_on(beside, stands):
    """Whether there are stands for all first places, and, behind each stand, for all next ones."""
    second = beside.second
    for place in second.firsts:
        if not has_stand(stands, place, first_rows(beside, second[place])):
            return False
    for place, rows in stands:
        for after in second.next(place):
            if not has_stand(stands, after, later_rows(beside, rows, second[after])):
                return False
    return True


def is_paper(threaded, treadled, value):
    """Whether any value is the two members of a paper that holds."""
    if len(value) != 2:
        return False
    ends = stands_in_bits(threaded, value[0])
    picks = stands_in_bits(treadled, value[1])
    if ends is None or picks is None or not go_on(threaded, ends) or not go_on(treadled, picks):
        return False
    return unmet(endings(threaded, ends), endings(treadled, picks)) == []


def rows_beside(beside, row):
    """The places, with their least bits, to which the first plan leads beside the beginning of a row of the second."""
    rows = first_rows(beside, row[0])
    for name in row[1:]:
        rows = later_rows(beside, rows, name)
    return rows


def ending_beside(beside, row):
    """The ending to which a row of the second plan leads."""
    return ending(beside, rows_beside(beside, row))


def is_missing(one, cloth, by):
    """Whether no cloth of a draft looks like this cloth."""
    upright = ending_beside(threadings(one, cloth.draft), cloth.ends)
    return not meet(upright, ending_beside(treadlings(one, cloth.draft, by), cloth.picks))


def is_smallest(one, other, value, result, by):
    """Whether any value is just a cloth that is as good as that of a result of covers."""
    if result[0] != "not" or len(value) != 1 or not is_cloth_of(value[0], other):
        return False
    return len(value[0]) == len(result[1]) and is_missing(one, value[0], by)


def shows_covers(one, other, value, *, by="face"):
    """Whether any value is a correct result of covers."""
    check_by(by)
    if not isinstance(value, tuple) or value == ():
        return False
    if value[0] == "not":
        return is_smallest(one, other, value[1:], covers(one, other, by=by), by)
    return value[0] == "covers" and is_paper(threadings(one, other), treadlings(one, other, by), value[1:])


def same(one, other, *, by="face"):
    """Whether two drafts cover one another; otherwise a smallest cloth that only one of them has."""
    check_by(by)
    result = covers(other, one, by=by)
    if result[0] == "not":
        return "one", result[1]
    result = covers(one, other, by=by)
    if result[0] == "not":
        return "other", result[1]
    return ("same",)
