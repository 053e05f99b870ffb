"""Joining: one kind in the place of two, and which two kinds can be joined without any loss."""

from treadplans.cloths import check_by
from treadplans.covering import same
from treadplans.errors import BadName
from treadplans.fitting import look_at


def exchanged(plan, name, second):
    """The text of a plan with a name in the place of each second one."""
    return " ".join([name if word == second else word for word in plan.text.split(" ")])


def joined(draft, name, second):
    """The draft whose plans have a kind in the place of a second one of its sort."""
    if second not in draft.kinds_beside(name) or second == name:
        raise BadName(second)
    return draft.with_plans(exchanged(draft.threading, name, second), exchanged(draft.treadling, name, second))


def pairs_in_plans(draft):
    """The ascending list of all pairs of two kinds of one sort that both stand in the plans."""
    return sorted([(name, second) for plan in (draft.threading, draft.treadling)
                   for name in plan.names for second in plan.names if name != second])


def joinable(draft, *, by="face"):
    """The ascending tuple of all pairs of kinds that can be joined so that the draft shows the same pictures."""
    check_by(by)
    return tuple([(name, second) for name, second in pairs_in_plans(draft)
                  if same(draft, joined(draft, name, second), by=by) == ("same",)])


def groups_alike(looks):
    """The ascending tuples of all names that look alike, two or more, looks telling how each one does."""
    groups = {}
    for name in sorted(looks):
        groups[looks[name]] = groups.get(looks[name], ()) + (name,)
    return [groups[look] for look in groups if len(groups[look]) > 1]


def twins(draft, *, by="face"):
    """The ascending tuple of all kinds that look alike at each kind that they can cross in a cloth."""
    check_by(by)
    ends = {end: tuple([look_at(draft, end, pick, by) for pick in draft.treadling.names])
            for end in draft.threading.names}
    picks = {pick: tuple([look_at(draft, end, pick, by) for end in draft.threading.names])
             for pick in draft.treadling.names}
    return tuple(sorted(groups_alike(ends) + groups_alike(picks)))
