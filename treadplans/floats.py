"""Floats: at how many neighbouring crossings threads lie above or below, at most and at least."""

from heapq import heappop, heappush

from treadplans.cloths import Cloth, is_cloth_of, is_thread, lies_over
from treadplans.errors import BadSide, BadSort
from treadplans.plans import BEFORE
from treadplans.words import is_integer

SORTS = ("end", "pick")
SIDES = ("face", "back")


def check_sort_and_side(sort, side):
    """Raises BadSort, then BadSide, for any value that is none."""
    if sort not in SORTS:
        raise BadSort(sort)
    if side not in SIDES:
        raise BadSide(side)


def plans_of(draft, sort):
    """The plan of the threads of a sort, and that of the threads that they cross."""
    if sort == "end":
        return draft.threading, draft.treadling
    return draft.treadling, draft.threading


def lies_on(draft, name, second, side):
    """Whether a thread of a kind lies on this side where it crosses one of a second kind."""
    if side == "face":
        return lies_over(draft, name, second)
    return lies_over(draft, second, name)


def longest_way(plan, places):
    """A longest way along these places alone, or, where there is none, one on which a place stands twice."""
    ways = {place: (place,) for place in places}
    way = ()
    while ways:
        way = ways[min(ways)]
        if stands_twice(way):
            return way
        ways = {after: ways[place] + (after,) for place in ways for after in plan.next(place) if after in places}
    return way


def stands_twice(way):
    """Whether some place stands in a way twice."""
    return len(set(way)) < len(way)


def around(plan, way):
    """The shortest ways by which a way can begin and end so that it is one of a whole row."""
    ahead = plan.way(plan.firsts, way[:1])[:-1]
    if way[-1] in plan.lasts:
        return ahead, ()
    return ahead, plan.way(plan.next(way[-1]), plan.lasts)


def row_along(plan, way):
    """The names of a row that goes along a way, and how many stand ahead of it."""
    ahead, behind = around(plan, way)
    return plan.names_at(ahead + way + behind), len(ahead)


def row_with(plan, name):
    """A row in which a name of the plan stands."""
    places = [place for place in range(len(plan)) if plan[place] == name]
    return row_along(plan, (places[0],))[0]


def round_along(plan, way):
    """The names ahead of a round, in it and behind it, for a way on which a place stands twice."""
    at = min([number for number, place in enumerate(way) if place in way[:number]])
    first = way.index(way[at])
    ahead, behind = around(plan, way[at:at + 1])
    return plan.names_at(ahead + way[at:at + 1]), plan.names_at(way[first + 1:at + 1]), plan.names_at(behind)


def cloth_of(draft, sort, row, across):
    """The cloth in which the threads of a sort are a row, and the others another one."""
    return Cloth(draft, row, across) if sort == "end" else Cloth(draft, across, row)


def longest(draft, sort, side):
    """At how many neighbouring crossings, at most, a thread of a sort lies on a side: a stretch, or a round."""
    check_sort_and_side(sort, side)
    plan, across = plans_of(draft, sort)
    best = ()
    kind = ""
    for name in plan.names:
        way = longest_way(across, [place for place in range(len(across)) if lies_on(draft, name, across[place], side)])
        if stands_twice(way):
            return ("endless", name) + round_along(across, way) + (row_with(plan, name),)
        if len(way) > len(best):
            best = way
            kind = name
    if best == ():
        return "most", 0
    row = row_with(plan, kind)
    beyond, first = row_along(across, best)
    return "most", len(best), cloth_of(draft, sort, row, beyond), (sort, row.index(kind)), first


def goes_on(plan, ahead, turn, behind):
    """Whether ahead + turn * many + behind is a row of a plan for each many from 0 on."""
    known = []
    places = plan.led_to((BEFORE,), ahead)
    # There are only so many places, so sooner or later the same ones come again.
    while places not in known:
        known.append(places)
        if not plan.can_end(plan.led_to(places, behind)):
            return False
        places = plan.led_to(places, turn)
    return True


def is_round(draft, sort, side, told):
    """Whether any five values tell a round that makes floats of a sort on a side endless."""
    name, ahead, turn, behind, row = told
    plan, across = plans_of(draft, sort)
    if row not in plan or name not in row:
        return False
    if not all([isinstance(names, tuple) for names in (ahead, turn, behind)]) or turn == ():
        return False
    return goes_on(across, ahead, turn, behind) and all([lies_on(draft, name, second, side) for second in turn])


def is_stretch(draft, many, told, sort, side):
    """Whether any three values tell a cloth, a thread of a sort, and the first of so many crossings on a side."""
    cloth, thread, first = told
    if not is_cloth_of(cloth, draft) or not is_thread(thread, cloth.ends, cloth.picks):
        return False
    if thread[0] != sort or not is_integer(first):
        return False
    return (first, first + many - 1, side) in cloth.floats(thread)


def shows_longest(draft, sort, side, value):
    """Whether any value is a correct result of longest."""
    check_sort_and_side(sort, side)
    if not isinstance(value, tuple):
        return False
    if value[:1] == ("endless",):
        return len(value) == 6 and is_round(draft, sort, side, value[1:])
    result = longest(draft, sort, side)
    if value[:2] != result[:2] or not is_integer(value[1]):
        return False
    if value[1] == 0:
        return len(value) == 2
    return len(value) == 5 and is_stretch(draft, value[1], value[2:], sort, side)


def runs_further(runs, before, signs):
    """How long the runs of equal signs are with these signs behind the ones before."""
    return tuple([run + 1 if sign == last else 1 for run, last, sign in zip(runs, before, signs)])


def calm_row(plan, signs, most):
    """The least number, at most this one, with a row in which no run of equal signs is longer; None if there is none.

    signs: for each name that can stand in the row how it crosses each of some kinds.
    """
    waiting = [(1, 1, place, (1,) * len(signs[plan[place]]), (plan[place],))
               for place in plan.firsts if plan[place] in signs]
    known = {}
    while waiting:
        many, _, place, runs, row = heappop(waiting)
        if many > most:
            return None
        if place in plan.lasts:
            return many, row
        for after in plan.next(place):
            if plan[after] in signs:
                further = runs_further(runs, signs[plan[place]], signs[plan[after]])
                # What comes first has the least number, so nothing better comes to this place with these runs.
                if (after, further) not in known:
                    known[(after, further)] = True
                    way = (max(many, max(further)), len(row) + 1, after, further, row + (plan[after],))
                    heappush(waiting, way)
    return None


def calm_cloth(draft, ends, picks, most):
    """The least number, at most this one, at which some cloth of some of these kinds is calm, and the cloth; or None.

    Its ends are calm beside all of these picks, and its picks beside all of these ends.
    """
    upright = {end: tuple([draft.is_above(end, pick) for pick in picks]) for end in ends}
    across = {pick: tuple([draft.is_above(end, pick) for end in ends]) for pick in picks}
    row = calm_row(draft.threading, upright, most)
    beyond = calm_row(draft.treadling, across, most)
    if row is None or beyond is None:
        return None
    return max(row[0], beyond[0]), Cloth(draft, row[1], beyond[1])


def calmest(draft):
    """The least number such that in some cloth no thread floats at more crossings, and such a cloth."""
    # In a shortest row no place stands twice, so in the smallest cloth no thread floats longer than this.
    most = max(len(draft.threading), len(draft.treadling))
    best = None
    for ends in draft.threading.used():
        for picks in draft.treadling.used():
            found = calm_cloth(draft, ends, picks, most)
            if found is not None:
                best = found
                most = found[0] - 1
    return best
