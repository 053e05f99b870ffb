"""How the threads of a cloth lie, worked out anew thread by thread; and rows that are enough to tell of all cloths."""

import functools
import itertools

from tests.oracle import rows
from tests.weaving import Told


def all_threads(ends, picks):
    return [('end', at) for at in range(len(ends))] + [('pick', at) for at in range(len(picks))]


def lies_above(told, ends, picks, thread):
    """At which crossings a thread lies above."""
    sort, number = thread
    if sort == 'end':
        return [told.is_above(ends[number], pick) for pick in picks]
    return [not told.is_above(end, picks[number]) for end in ends]


def runs(sides):
    """All stretches of equal members that cannot be made longer."""
    last = len(sides) - 1
    return tuple((one, other, 'face' if sides[one] else 'back')
                 for one in range(len(sides)) for other in range(one, len(sides))
                 if len(set(sides[one:other + 1])) == 1
                 and (one == 0 or sides[one - 1] != sides[one]) and (other == last or sides[other + 1] != sides[one]))


def steps_of(told, ends, picks):
    """For each thread those over which it lies, and those of its yarn."""
    threads = all_threads(ends, picks)
    steps = {thread: set() for thread in threads}
    for at, end in enumerate(ends):
        for number, pick in enumerate(picks):
            pair = [('end', at), ('pick', number)]
            one, other = pair if told.is_above(end, pick) else pair[::-1]
            steps[one].add(other)
    named = dict(zip(threads, ends + picks))
    for yarn in told.yarns:
        group = [thread for thread in threads if named[thread] in yarn]
        for thread in group:
            steps[thread].update(group)
    return steps


def come_to(told, ends, picks):
    """For each thread the threads to which one comes, by no step or more; threads of a yarn are one."""
    found = {thread: steps | {thread} for thread, steps in steps_of(told, ends, picks).items()}
    for by_way in found:
        for known in found.values():
            if by_way in known:
                known |= found[by_way]
    return found


def parts_of(found):
    """The parts of the threads, each as the document has it, and the pairs of which the first is above."""
    groups = {frozenset(other for other in found[one] if one in found[other]): one for one in found}
    told = sorted((tuple(sorted(at for sort, at in group if sort == 'end')),
                   tuple(sorted(at for sort, at in group if sort == 'pick')), groups[group]) for group in groups)
    above = tuple((one, other) for one in range(len(told)) for other in range(len(told))
                  if one != other and told[other][2] in found[told[one][2]])
    return tuple((ends, picks) for ends, picks, _ in told), above


@functools.lru_cache(None)
def rows_enough(text, most=7):
    """Rows of a plan, one for all that have the same names once, and the same ones more than once."""
    found = {}
    for row in sorted(rows(text, most), key=lambda row: (len(row), row)):
        if row:
            found.setdefault(tuple((name, min(2, row.count(name))) for name in sorted(set(row))), row)
    return sorted(found.values())


def cloths_enough(told, most=7):
    """Rows of ends and of picks by which all is told of what holds together in a draft."""
    return itertools.product(rows_enough(told.threading, most), rows_enough(told.treadling, most))
