"""What drafts and cloths mean, worked out anew from the text of a draft; and drafts made at random."""

from treadplans.drafts import Draft
from tests.oracle import made, rows

LOOKS = ['face', 'lifts', 'both']
FREE = '( a | b | c ) +'
OTHER_NAMES = dict(zip('abcrst', 'zyxwvu'))


class Told:
    """What the lines of a draft tell, whose kinds have one letter each."""

    def __init__(self, draft):
        self.colours = {}
        self.lifts = {}
        self.yarns = []
        self.picks = []
        self.ends = []
        for line in draft.text.split('\n'):
            word, *others = line.split(' ')
            if word == 'pick':
                self.picks.append(others[0])
                self.colours[others[0]] = others[1]
            elif word == 'end':
                self.ends.append(others[0])
                self.colours[others[0]] = others[1]
                self.lifts[others[0]] = others[2]
            elif word == 'yarn':
                self.yarns.append(set(others))
            elif word == 'threading':
                self.threading = ' '.join(others)
            else:
                self.treadling = ' '.join(others)

    def is_above(self, end, pick):
        return self.lifts[end][self.picks.index(pick)] == '#'

    def crossing(self, end, pick, by):
        """How a crossing looks."""
        above = self.is_above(end, pick)
        colours = [self.colours[end], self.colours[pick]]
        shown = colours if above else colours[::-1]
        return {'face': shown[0], 'lifts': above, 'both': tuple(shown)}[by]

    def picture(self, ends, picks, by):
        return tuple(tuple(self.crossing(end, pick, by) for end in ends) for pick in picks)

    def rows_by_length(self, most):
        """The rows of the threading, and those of the treadling, by their lengths up to most."""
        both = []
        for text in (self.threading, self.treadling):
            found = {many: [] for many in range(1, most + 1)}
            for row in sorted(rows(text, most)):
                if row:
                    found[len(row)].append(row)
            both.append(found)
        return both


def pictures(draft, width, height, by):
    """All pictures of a size, each with a cloth of the draft that shows it."""
    told = Told(draft)
    ends, picks = told.rows_by_length(max(width, height))
    return {told.picture(row, across, by): (row, across) for row in ends[width] for across in picks[height]}


def missing(one, other, by, threads):
    """The pictures of other with so many threads that one lacks."""
    found = {}
    for width in range(1, threads):
        sizes = (width, threads - width, by)
        has = pictures(one, *sizes)
        found.update({picture: rows for picture, rows in pictures(other, *sizes).items() if picture not in has})
    return found


def random_draft(chosen, kinds=3, places=4, colours='xy', yarns=False):
    """A draft whose kinds have one letter each."""
    picks = 'abc'[:chosen.randint(1, kinds)]
    ends = 'rst'[:chosen.randint(1, kinds)]
    lines = [f'pick {name} {chosen.choice(colours)}' for name in picks]
    for name in ends:
        lines.append(f'end {name} {chosen.choice(colours)} ' + ''.join(chosen.choice('#.') for _ in picks))
    for names in (picks, ends):
        if yarns and len(names) > 1 and chosen.random() < 0.4:
            lines.append('yarn ' + ' '.join(chosen.sample(names, chosen.randint(2, len(names)))))
    return with_random_plans(chosen, lines, ends, picks, places)


def with_random_plans(chosen, lines, ends, picks, places):
    while True:
        plans = []
        for names in (ends, picks):
            text = FREE if chosen.random() < 0.3 else made(chosen, places)
            if chosen.random() < 0.2:
                text = text + ' +' if len(text) == 1 else '( ' + text + ' ) +'
            plans.append(''.join(names['abc'.index(word) % len(names)] if word in 'abc' else word for word in text))
        try:
            draft = Draft('\n'.join(lines + ['threading ' + plans[0], 'treadling ' + plans[1]]))
        except ValueError:
            continue
        if len(draft.threading) <= places and len(draft.treadling) <= places:
            return draft


def random_cloth_rows(chosen, draft, most=5):
    """A row of ends and a row of picks of a draft, perhaps longer than most."""
    both = []
    for plan in (draft.threading, draft.treadling):
        while True:
            place = chosen.choice(plan.firsts)
            row = (plan[place],)
            while plan.next(place) and (row not in plan or chosen.random() < 0.6) and len(row) < 3 * most:
                place = chosen.choice(plan.next(place))
                row = row + (plan[place],)
            if row in plan:
                break
        both.append(row)
    return both


def other_names(draft):
    """The draft with names for its kinds that stand in another order."""
    table = str.maketrans(OTHER_NAMES)
    lines = []
    for line in draft.text.split('\n'):
        words = line.split(' ')
        colour = [words[2]] if words[0] in ('pick', 'end') else []
        names = words[1:2] if colour else words[1:]
        renamed = [name.translate(table) for name in names]
        lines.append(' '.join(words[:1] + renamed + colour + (words[3:] if colour else [])))
    return Draft('\n'.join(lines))


def other_order(draft):
    """The draft with the lines of its kinds in another order."""
    lines = draft.text.split('\n')
    picks = [line for line in lines if line.startswith('pick ')]
    ends = [line for line in lines if line.startswith('end ')]
    ends = [line[:-len(picks)] + line[-len(picks):][::-1] for line in ends]
    return Draft('\n'.join(picks[::-1] + ends[::-1] + lines[len(picks) + len(ends):]))


def written_otherwise(draft):
    """The draft with plans that have the same rows, and other places where there is room."""
    texts = []
    for plan in (draft.threading, draft.treadling):
        text = f'( {plan.text} ) | {plan.text}' if len(plan) <= 4 else plan.text
        texts.append(' '.join(plan.shortest()) + ' | ' + text if len(plan) <= 2 else text)
    try:
        return draft.with_plans(*texts)
    except ValueError:
        return draft
