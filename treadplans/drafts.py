"""Drafts: kinds of ends and of picks, how they cross, and in which rows they stand."""

from treadplans.errors import BadDraft, BadEnd, BadName, BadPick, BadPlan
from treadplans.plans import Plan
from treadplans.words import is_name

MOST_KINDS = 4
OTHER_SIGN = {"#": ".", ".": "#"}


def tells_kind(words, word, taken):
    """Whether the words begin with this word, a name that is not taken, and a colour."""
    return words[0] == word and is_name(words[1]) and words[1] not in taken and is_name(words[2])


def is_lifts(word, many):
    """Whether a word has so many signs of lifts, and nothing else."""
    return len(word) == many and all([sign in OTHER_SIGN for sign in word])


def read_picks(lines):
    """The names and colours of the kinds of picks that the first lines tell."""
    colours = {}
    for line in lines[:MOST_KINDS]:
        words = line.split(" ")
        if len(words) != 3 or not tells_kind(words, "pick", colours):
            break
        colours[words[1]] = words[2]
    return colours


def read_ends(lines, picks):
    """The names, colours and lifts of the kinds of ends that the first lines tell."""
    ends = {}
    for line in lines[:MOST_KINDS]:
        words = line.split(" ")
        if len(words) != 4 or not tells_kind(words, "end", {**picks, **ends}):
            break
        if not is_lifts(words[3], len(picks)):
            break
        ends[words[1]] = (words[2], words[3])
    return ends


def is_yarn(names, ends, picks):
    """Whether these are two or more different kinds of one sort."""
    if len(names) < 2 or len(set(names)) < len(names):
        return False
    return all([name in ends for name in names]) or all([name in picks for name in names])


def read_yarns(lines, ends, picks):
    """The ascending names of each yarn that the first lines tell."""
    yarns = []
    taken = {}
    for line in lines:
        words = line.split(" ")
        names = sorted(words[1:])
        if words[0] != "yarn" or not is_yarn(names, ends, picks):
            break
        if any([name in taken for name in names]):
            break
        yarns.append(tuple(names))
        for name in names:
            taken[name] = True
    return yarns


def read_plan(text, kinds):
    """The plan that any value is the text of, if its names are among the kinds: BadPlan."""
    plan = Plan(text)
    if not all([name in kinds for name in plan.names]):
        raise BadPlan(text)
    return plan


def read_plan_line(lines, at, word, kinds):
    """The plan that a line tells behind the word: BadDraft with the number of the line."""
    if at == len(lines):
        raise BadDraft(at + 1)
    head, _, text = lines[at].partition(" ")
    if head != word:
        raise BadDraft(at + 1)
    try:
        plan = read_plan(text, kinds)
    except BadPlan:
        raise BadDraft(at + 1) from None
    return plan


class Draft:
    """A text of lines that tell kinds of picks and of ends, yarns, and two plans."""

    def __init__(self, text):
        if not isinstance(text, str):
            raise BadDraft(0)
        lines = text.split("\n")
        picks = read_picks(lines)
        if not picks:
            raise BadDraft(1)
        ends = read_ends(lines[len(picks):], picks)
        at = len(picks) + len(ends)
        if not ends:
            raise BadDraft(at + 1)
        yarns = read_yarns(lines[at:], ends, picks)
        at = at + len(yarns)
        self.threading = read_plan_line(lines, at, "threading", ends)
        self.treadling = read_plan_line(lines, at + 1, "treadling", picks)
        if len(lines) > at + 2:
            raise BadDraft(at + 3)
        self.text = text
        self.ends = tuple(ends)
        self.picks = tuple(picks)
        self.yarns = tuple(sorted(yarns))
        colours = {name: ends[name][0] for name in ends}
        self._colours = {**picks, **colours}
        self._lifts = {name: ends[name][1] for name in ends}

    def __eq__(self, other):
        return isinstance(other, Draft) and self.text == other.text

    def __invert__(self):
        picks = [f"pick {name} {self._colours[name]}" for name in self.ends]
        ends = [self._end_line(name, self._turned_lifts(name)) for name in self.picks]
        yarns = self.text.split("\n")[len(picks) + len(ends):-2]
        plans = [f"threading {self.treadling.text}", f"treadling {self.threading.text}"]
        return Draft("\n".join(picks + ends + yarns + plans))

    def is_above(self, end, pick):
        """Whether the end lies above the pick."""
        self._check_crossing(end, pick)
        return self._lifts[end][self.picks.index(pick)] == "#"

    def colour(self, name):
        """The colour of any kind."""
        self.kinds_beside(name)
        return self._colours[name]

    def shown(self, end, pick):
        """The colour that the face shows where these cross."""
        return self._colours[end if self.is_above(end, pick) else pick]

    def hidden(self, end, pick):
        """The colour that the face hides where these cross."""
        return self._colours[pick if self.is_above(end, pick) else end]

    def with_plans(self, threading, treadling):
        """The draft with other plans, told by two texts."""
        read_plan(threading, self.ends)
        read_plan(treadling, self.picks)
        lines = self.text.split("\n")
        plans = [f"threading {threading}", f"treadling {treadling}"]
        return Draft("\n".join(lines[:-2] + plans))

    def flipped(self, end, pick):
        """The draft with the other one above where these cross."""
        self._check_crossing(end, pick)
        at = self.picks.index(pick)
        lifts = self._lifts[end]
        lifts = lifts[:at] + OTHER_SIGN[lifts[at]] + lifts[at + 1:]
        lines = self.text.split("\n")
        lines[len(self.picks) + self.ends.index(end)] = self._end_line(end, lifts)
        return Draft("\n".join(lines))

    def kinds_beside(self, name):
        """All kinds of the sort of a kind, itself among them: BadName."""
        for kinds in (self.ends, self.picks):
            if name in kinds:
                return kinds
        raise BadName(name)

    def _check_crossing(self, end, pick):
        """Raises BadEnd, then BadPick, for any value that is no kind of the sort."""
        if end not in self.ends:
            raise BadEnd(end)
        if pick not in self.picks:
            raise BadPick(pick)

    def _end_line(self, name, lifts):
        """The line of a kind of ends with this name, the colour of that name, and these lifts."""
        return f"end {name} {self._colours[name]} {lifts}"

    def _turned_lifts(self, pick):
        """The lifts that a kind of picks has once it is a kind of ends."""
        at = self.picks.index(pick)
        return "".join([OTHER_SIGN[self._lifts[end][at]] for end in self.ends])
