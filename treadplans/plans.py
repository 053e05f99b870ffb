"""Plans: texts that tell rows of names."""

from treadplans.errors import BadNumber, BadPlace, BadPlan
from treadplans.words import backwards, is_spelled, is_within, read_choices

MOST_PLACES = 8
LONGEST_COUNTED = 12
# The place behind which rows begin; it is none of a plan, and no row can end at it.
BEFORE = -1
COPIES = {"2": 2, "3": 3, "4": 4}


class Web:
    """The places of a part of a plan, and how its rows lead from place to place.

    named: the name at each place; firsts, lasts: the places at which a row can begin, and end;
    steps: the pairs of places that can stand side by side, perhaps twice; can_be_empty: whether
    the part can also tell nothing at all.
    """

    def __init__(self, named, firsts, lasts, steps, can_be_empty):
        self.named = named
        self.firsts = firsts
        self.lasts = lasts
        self.steps = steps
        self.can_be_empty = can_be_empty


def moved(web, by):
    """The web with all places numbered higher by so many."""
    firsts = tuple([place + by for place in web.firsts])
    lasts = tuple([place + by for place in web.lasts])
    steps = tuple([(place + by, after + by) for place, after in web.steps])
    return Web(web.named, firsts, lasts, steps, web.can_be_empty)


def pairs_of(places, others):
    """All pairs of one of the places and one of the others."""
    return tuple([(place, other) for place in places for other in others])


def in_row(one, other):
    """The web of the rows of one with those of other behind them."""
    later = moved(other, len(one.named))
    firsts = one.firsts + later.firsts if one.can_be_empty else one.firsts
    lasts = one.lasts + later.lasts if later.can_be_empty else later.lasts
    steps = one.steps + later.steps + pairs_of(one.lasts, later.firsts)
    can_be_empty = one.can_be_empty and later.can_be_empty
    return Web(one.named + later.named, firsts, lasts, steps, can_be_empty)


def either(one, other):
    """The web of the rows of one and those of other."""
    later = moved(other, len(one.named))
    can_be_empty = one.can_be_empty or later.can_be_empty
    return Web(one.named + later.named, one.firsts + later.firsts, one.lasts + later.lasts,
               one.steps + later.steps, can_be_empty)


def repeated(web, can_be_empty):
    """The web of one row or more, one behind the other; none, too, if it can be empty."""
    steps = web.steps + pairs_of(web.lasts, web.firsts)
    return Web(web.named, web.firsts, web.lasts, steps, can_be_empty)


def copied(web, many):
    """The web of so many rows, one behind the other."""
    copies = Web((), (), (), (), True)
    for _ in range(many):
        copies = in_row(copies, web)
    return copies


def web_of_choices(choices):
    """The web of all rows of some choices."""
    web = Web((), (), (), (), False)
    for choice in choices:
        web = either(web, web_of_choice(choice))
    return web


def web_of_choice(choice):
    """The web of the rows that have a row of each part of a choice."""
    web = Web((), (), (), (), True)
    for inside, mark in choice:
        web = in_row(web, web_of_part(inside, mark))
    return web


def web_of_part(inside, mark):
    """The web of a name or of choices in brackets, with the mark behind it."""
    web = Web((inside,), (0,), (0,), (), False) if isinstance(inside, str) else web_of_choices(inside)
    if mark == "+":
        return repeated(web, web.can_be_empty)
    if mark == "*":
        return repeated(web, True)
    return copied(web, COPIES.get(mark, 1))


def count_places(choices):
    """How many places some choices have, all copies counted."""
    return sum([count_part(inside, mark) for choice in choices for inside, mark in choice])


def count_part(inside, mark):
    """How many places a part has, all copies counted."""
    once = 1 if isinstance(inside, str) else count_places(inside)
    return once * COPIES.get(mark, 1)


def web_of_text(text):
    """The web of a plan; None if any value is no text of a plan."""
    if not isinstance(text, str):
        return None
    words = text.split(" ")
    if not is_spelled(words):
        return None
    choices, _ = read_choices(words, 0)
    # Copies within copies would be too many to write them out, so they are counted first.
    if count_places(choices) > MOST_PLACES:
        return None
    web = web_of_choices(choices)
    return None if web.can_be_empty else web


def next_places(steps, place):
    """The ascending tuple of the places to which steps lead from a place."""
    return tuple(sorted({after for before, after in steps if before == place}))


class Plan:
    """A text of words that tells rows, tuples of one or more names."""

    def __init__(self, text):
        web = web_of_text(text)
        if web is None:
            raise BadPlan(text)
        self.text = text
        self.names = tuple(sorted(set(web.named)))
        self.firsts = tuple(sorted(web.firsts))
        self.lasts = tuple(sorted(web.lasts))
        self._named = web.named
        self._nexts = tuple([next_places(web.steps, place) for place in range(len(web.named))])

    def __len__(self):
        return len(self._named)

    def __iter__(self):
        raise TypeError("a plan is asked for its places one by one")

    def __getitem__(self, at):
        self._check_place(at)
        return self._named[at]

    def __contains__(self, x):
        return isinstance(x, tuple) and self.can_end(self.led_to((BEFORE,), x))

    def __eq__(self, other):
        return isinstance(other, Plan) and self.text == other.text

    def __add__(self, other):
        return Plan(f"( {self.text} ) ( {other.text} )")

    def __or__(self, other):
        return Plan(f"{self.text} | {other.text}")

    def __mul__(self, other):
        if not is_within(other, 2, 4):
            raise BadNumber(other)
        return Plan(f"( {self.text} ) {other}")

    def __invert__(self):
        choices, _ = read_choices(self.text.split(" "), 0)
        return Plan(backwards(choices))

    def next(self, place):
        """The ascending tuple of the places that can come right behind a place."""
        self._check_place(place)
        return self._nexts[place]

    def counted(self, many):
        """How many different rows of so many names the plan has."""
        if not is_within(many, 0, LONGEST_COUNTED):
            raise BadNumber(many)
        # Each row comes to just one tuple of places, so none is counted twice.
        rows = {(BEFORE,): 1}
        for _ in range(many):
            rows = self._counted_further(rows)
        return sum([rows[places] for places in rows if self.can_end(places)])

    def used(self):
        """The ascending tuple of all ascending tuples of names that are just those of some row."""
        found = {(place, (self._named[place],)): True for place in self.firsts}
        waiting = list(found)
        while waiting:
            place, names = waiting.pop()
            for after in self._nexts[place]:
                state = (after, tuple(sorted(set(names + (self._named[after],)))))
                if state not in found:
                    found[state] = True
                    waiting.append(state)
        return tuple(sorted({names for place, names in found if place in self.lasts}))

    def shortest(self):
        """The first row of the plan, by length, then in Python's order."""
        least = {place: (self._named[place],) for place in self.firsts}
        while not self.can_end(least):
            least = self._least_further(least)
        return min([least[place] for place in least if place in self.lasts])

    def can_end(self, places):
        """Whether a row can end at one of the places."""
        return any([place in self.lasts for place in places])

    def led_to(self, places, names):
        """The ascending tuple of the places to which these names lead that stand behind some places."""
        for name in names:
            places = tuple([place for place in self._next_to_any(places) if self._named[place] == name])
        return places

    def ways_on(self, places):
        """All names that can stand behind some places, ascending, each with the tuple of its places there."""
        groups = {}
        for place in self._next_to_any(places):
            name = self._named[place]
            groups[name] = groups.get(name, ()) + (place,)
        return [(name, groups[name]) for name in sorted(groups)]

    def way(self, starts, goals):
        """The places along a shortest way from one of the starts to one of the goals; there must be one."""
        ways = {start: (start,) for start in starts}
        while not any([goal in ways for goal in goals]):
            longer = {after: ways[place] + (after,) for place in ways for after in self._nexts[place]}
            ways = {**longer, **ways}
        return min([ways[goal] for goal in goals if goal in ways], key=len)

    def names_at(self, places):
        """The names at some places, one behind the other."""
        return tuple([self._named[place] for place in places])

    def _check_place(self, place):
        """Raises BadPlace for any value that is no place."""
        if not is_within(place, 0, len(self._named) - 1):
            raise BadPlace(place)

    def _next_to_any(self, places):
        """The ascending list of the places that can come right behind one of the places."""
        return sorted({after for place in places for after in self._behind(place)})

    def _behind(self, place):
        """The places that can come right behind a place, or BEFORE."""
        return self.firsts if place == BEFORE else self._nexts[place]

    def _counted_further(self, rows):
        """From how many rows come to each tuple of places: how many come to each by one name more."""
        longer = {}
        for places in rows:
            for _, reached in self.ways_on(places):
                longer[reached] = longer.get(reached, 0) + rows[places]
        return longer

    def _least_further(self, least):
        """From the least beginning of a row for each place: the least ones by one name more."""
        longer = {}
        for place in least:
            for after in self._nexts[place]:
                row = least[place] + (self._named[after],)
                longer[after] = min(row, longer.get(after, row))
        return longer
