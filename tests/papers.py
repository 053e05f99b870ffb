"""Whether a paper holds, told by the document's five points alone; and how many rows full stands have."""

from tests.weaving import Told


class Judge:
    """What papers of two drafts are judged by."""

    def __init__(self, one, other, by='face', most=3300):
        self.one = one
        self.other = other
        self.told = Told(one)
        self.second = Told(other)
        self.by = by
        self.most = most

    def fits(self, ends, picks):
        return (self.told.crossing(ends[0], picks[0], self.by)
                == self.second.crossing(ends[1], picks[1], self.by))

    def is_formed(self, stands, plan, second):
        """Whether the form is right, of any value."""
        def is_in(value, many):
            return isinstance(value, int) and not isinstance(value, bool) and 0 <= value < many

        def is_pair(value):
            return (isinstance(value, tuple) and len(value) == 2 and all(isinstance(name, str) for name in value)
                    and value[0] in self.told.ends and value[1] in self.second.ends)

        def is_set(value):
            return isinstance(value, tuple) and all(map(is_pair, value)) and value == tuple(sorted(set(value)))

        def is_row(value):
            return (isinstance(value, tuple) and len(value) == 2
                    and is_in(value[0], len(plan)) and is_set(value[1]))

        def is_rows(value):
            return isinstance(value, tuple) and all(map(is_row, value)) and value == tuple(sorted(set(value)))

        return isinstance(stands, tuple) and all(
            isinstance(stand, tuple) and len(stand) == 2 and is_in(stand[0], len(second)) and is_rows(stand[1])
            for stand in stands)

    def first_ends(self, ends):
        one, other = self.one.threading, self.other.threading
        return all(any(place == first and all(q in one.firsts and (one[q], other[first]) in pairs for q, pairs in rows)
                       for place, rows in ends) for first in other.firsts)

    def later_ends(self, ends):
        one, other = self.one.threading, self.other.threading
        return all(any(place == r and all(
            any(q in one.next(s) and set(before) <= set(pairs) and (one[q], other[r]) in pairs for s, before in rows)
            for q, pairs in later) for place, later in ends) for p, rows in ends for r in other.next(p))

    def first_picks(self, picks):
        one, other = self.one.treadling, self.other.treadling
        return all(any(place == first and all(
            q in one.firsts and all(self.fits(pair, (one[q], other[first])) for pair in pairs) for q, pairs in rows)
            for place, rows in picks) for first in other.firsts)

    def later_picks(self, picks):
        one, other = self.one.treadling, self.other.treadling
        return all(any(place == r and all(
            any(q in one.next(s) and set(pairs) <= set(before) and all(self.fits(pair, (one[q], other[r]))
                                                                       for pair in pairs) for s, before in rows)
            for q, pairs in later) for place, later in picks) for p, rows in picks for r in other.next(p))

    def all_meet(self, ends, picks):
        one, other = self.one, self.other
        return all(any(s in one.threading.lasts and t in one.treadling.lasts and set(pairs) <= set(greater)
                       for s, pairs in rows for t, greater in later)
                   for p, rows in ends if p in other.threading.lasts
                   for q, later in picks if q in other.treadling.lasts)

    def holds(self, value):
        """Whether any value is a paper that holds."""
        if not isinstance(value, tuple) or len(value) != 3 or value[0] != 'covers':
            return False
        _, ends, picks = value
        if not self.is_formed(ends, self.one.threading, self.other.threading):
            return False
        if not self.is_formed(picks, self.one.treadling, self.other.treadling):
            return False
        return (self.first_ends(ends) and self.later_ends(ends) and self.first_picks(picks)
                and self.later_picks(picks) and self.all_meet(ends, picks))

    def full_stands(self, plan, second, set_of, is_better):
        """All different full stands, or so many that they have more rows than most."""
        def kept(rows):
            return frozenset((q, pairs) for q, pairs in rows
                             if not any(q == place and is_better(other, pairs) for place, other in rows))

        waiting = [(p, kept({(q, set_of(plan[q], second[p], None)) for q in plan.firsts})) for p in second.firsts]
        found = set(waiting)
        many = sum(len(rows) for _, rows in found)
        while waiting and many <= self.most:
            p, rows = waiting.pop()
            for r in second.next(p):
                stand = (r, kept({(q, set_of(plan[q], second[r], pairs)) for s, pairs in rows for q in plan.next(s)}))
                if stand not in found:
                    found.add(stand)
                    many += len(stand[1])
                    waiting.append(stand)
        return found

    def stands_of_ends(self):
        return self.full_stands(
            self.one.threading, self.other.threading,
            lambda name, beside, before: frozenset([(name, beside)]) | (before or frozenset()), frozenset.__lt__)

    def stands_of_picks(self):
        fits = {picks: frozenset(ends for ends in [(one, other) for one in self.told.ends for other in self.second.ends]
                                 if self.fits(ends, picks))
                for picks in [(one, other) for one in self.told.picks for other in self.second.picks]}
        return self.full_stands(
            self.one.treadling, self.other.treadling,
            lambda name, beside, before: fits[name, beside] if before is None else fits[name, beside] & before,
            frozenset.__gt__)

    def many_rows(self):
        """How many rows all full stands of ends have, and of picks; more than most if that is so."""
        return tuple(sum(len(rows) for _, rows in stands) for stands in (self.stands_of_ends(), self.stands_of_picks()))
