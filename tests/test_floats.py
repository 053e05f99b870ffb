"""Section 12: floats."""

import itertools
import random
import unittest

from treadplans.cloths import Cloth
from treadplans.drafts import Draft
from treadplans.errors import BadSide, BadSort
from treadplans.floats import calmest, longest, shows_longest
from treadplans.holding import apart, holds
from tests.threads import all_threads, lies_above, runs
from tests.values import PLAIN, VALUES, refused
from tests.weaving import Told, other_names, other_order, random_cloth_rows, random_draft, written_otherwise

plain = Draft(PLAIN)
TWILL = Draft('\n'.join((
    'pick p white', 'pick q white', 'end a blue #.', 'end b blue .#', 'end c blue ..',
    'threading ( a | b | c ) +', 'treadling ( p | q ) +')))
SORTS = ['end', 'pick']
SIDES = ['face', 'back']
ASKED = list(itertools.product(SORTS, SIDES))


def drafts(seed, many, kinds=3, places=3):
    chosen = random.Random(seed)
    return [random_draft(chosen, kinds, places, yarns=True) for _ in range(many)]


def lies_on(told, sort, name, second, side):
    above = told.is_above(name, second) if sort == 'end' else not told.is_above(second, name)
    return above == (side == 'face')


def plans_of(draft, sort):
    plans = [draft.threading, draft.treadling]
    return plans if sort == 'end' else plans[::-1]


def most_steps(draft, sort, side):
    """The length of the longest float; 9 or more if it is endless. All ways through a plan are gone at once."""
    told = Told(draft)
    plan, across = plans_of(draft, sort)
    longest_run = 0
    for name in plan.names:
        good = {place for place in range(len(across)) if lies_on(told, sort, name, across[place], side)}
        ends, many = set(good), 0
        while ends and many < 9:
            many += 1
            ends = {after for place in ends for after in across.next(place)} & good
        longest_run = max(longest_run, many)
    return longest_run


def listed(draft, most):
    """All pairs of rows, each of up to so many names."""
    both = [sum(by_length.values(), []) for by_length in Told(draft).rows_by_length(most)]
    return itertools.product(*both)


def floats_of(told, ends, picks):
    """All stretches of all threads: (thread, (first, last, side))."""
    return [(thread, stretch) for thread in all_threads(ends, picks)
            for stretch in runs(lies_above(told, ends, picks, thread))]


def many_at_most(told, ends, picks):
    """At how many neighbouring crossings some thread floats at most."""
    return max(last - first + 1 for _, (first, last, _) in floats_of(told, ends, picks))


def rounds_hold(draft, sort, side, value):
    """Whether a value that begins with "endless" is right, as far as rounds are gone a dozen times."""
    if not isinstance(value, tuple) or len(value) != 6:
        return False
    _, name, ahead, turn, behind, row = value
    told = Told(draft)
    plan, across = plans_of(draft, sort)
    if row not in plan or not isinstance(name, str) or name not in row:
        return False
    if not all(isinstance(names, tuple) for names in (ahead, turn, behind)) or not turn:
        return False
    if not all(isinstance(second, str) and second in across.names for second in turn):
        return False
    return (all(ahead + turn * many + behind in across for many in range(12))
            and all(lies_on(told, sort, name, second, side) for second in turn))


class TestLongest(unittest.TestCase):
    def test_the_examples(self):
        self.assertEqual(
            [longest(plain, 'end', 'face')[:2], longest(TWILL, 'end', 'back')[0], holds(plain)[0],
             apart(TWILL, 'c', 'c')[0]],
            [('most', 1), 'endless', 'falls', 'cloth'])
        self.assertEqual(longest(side='face', draft=plain, sort='end')[:2], ('most', 1))

    def check(self, draft, sort, side):
        """Checks a result, and returns its kind."""
        result = longest(draft, sort, side)
        told = Told(draft)
        many = most_steps(draft, sort, side)
        if many > 8:
            self.assertEqual(result[0], 'endless', draft.text)
            self.assertTrue(rounds_hold(draft, sort, side, result), (draft.text, result))
            return 'endless'
        self.assertEqual(result[:2], ('most', many), (draft.text, sort, side))
        self.assertEqual(len(result), 5 if many else 2)
        if many:
            _, _, cloth, thread, first = result
            self.assertEqual((cloth.draft, thread[0]), (draft, sort))
            self.assertIn((thread, (first, first + many - 1, side)), floats_of(told, cloth.ends, cloth.picks))
            self.assertIn((first, first + many - 1, side), cloth.floats(thread))
        return many

    def test_at_random(self):
        seen = {}
        for draft in drafts(1, 150, 3, 8) + drafts(2, 100) + drafts(3, 150, 2, 6):
            for sort, side in ASKED:
                kind = self.check(draft, sort, side)
                seen[kind] = seen.get(kind, 0) + 1
        self.assertTrue({0, 1, 2, 3, 4, 'endless'} <= set(seen) and min(seen[0], seen['endless']) > 50, seen)

    def test_against_small_cloths(self):
        for draft in drafts(4, 60):
            told = Told(draft)
            most = {asked: 0 for asked in ASKED}
            for ends, picks in listed(draft, 4):
                for (sort, _), (first, last, side) in floats_of(told, ends, picks):
                    most[sort, side] = max(most[sort, side], last - first + 1)
            for sort, side in ASKED:
                result = longest(draft, sort, side)
                if result[0] == 'most':
                    self.assertLessEqual(most[sort, side], result[1])
                    if max([0] + [len(rows) for cloth in result[2:3] for rows in (cloth.ends, cloth.picks)]) < 5:
                        self.assertEqual(most[sort, side], result[1])
                else:
                    self.assertTrue(rounds_hold(draft, sort, side, result))

    def test_plans_of_one_row(self):
        draft = plain.with_plans('a b b a', 'p q q p q')
        told = {('end', 'face'): 2, ('end', 'back'): 2, ('pick', 'face'): 2, ('pick', 'back'): 2}
        self.assertEqual({asked: longest(draft, *asked)[1] for asked in ASKED}, told)
        result = longest(draft, 'end', 'face')
        self.assertEqual((result[2].ends, result[2].picks), (('a', 'b', 'b', 'a'), ('p', 'q', 'q', 'p', 'q')))
        self.assertEqual((result[3] in (('end', 1), ('end', 2)), result[4]), (True, 1))
        small = plain.with_plans('a', 'p')
        self.assertEqual([longest(small, *asked)[1] for asked in ASKED], [1, 0, 0, 1])
        self.assertEqual([len(longest(small, *asked)) for asked in ASKED], [5, 2, 2, 5])

    def test_figures_and_repeats(self):
        for treadling, many in [('p 4', 4), ('( p 2 ) 4', 8), ('( p 2 q ) 2 p', 2), ('( q p 3 ) 2', 3),
                                ('p 3 ( q p ) * p 2', 5),
                                ('q p 2 | p 4 q', 4), ('( q p 2 ) +', 2), ('( p q p ) +', 2), ('( p q ) * p q', 1)]:
            draft = plain.with_plans('b * a b', treadling)
            self.assertEqual(longest(draft, 'end', 'face')[:2], ('most', many))
            self.check(draft, 'end', 'face')
            self.check(~draft, 'pick', 'face')

    def test_endless(self):
        draft = plain.with_plans('b a a b', 'q ( p 2 ) + q')
        word, name, ahead, turn, behind, row = longest(draft, 'end', 'face')
        self.assertEqual((word, name, set(turn), len(turn) % 2), ('endless', 'a', {'p'}, 0))
        self.assertEqual((ahead[0], behind[-1], row), ('q', 'q', ('b', 'a', 'a', 'b')))
        self.assertEqual(longest(draft, 'end', 'back')[:2], ('endless', 'b'))
        # The kind c would float endlessly, but it stands in no row.
        free = TWILL.with_plans('( a | b ) +', '( p q ) +')
        self.assertEqual(longest(free, 'end', 'back')[:2], ('most', 1))
        self.assertEqual(longest(TWILL.with_plans('a c', '( p q ) +'), 'end', 'back')[:2], ('endless', 'c'))

    def test_refused_sorts_and_sides(self):
        for value in VALUES + ['ends', 'End', 'picks', ('end',), ['end'], 'face', 'back']:
            self.assertIs(refused(BadSort, longest, plain, value, 'face'), value)
            self.assertIs(refused(BadSort, longest, plain, value, value), value)
            self.assertIs(refused(BadSort, shows_longest, plain, value, value, value), value)
            self.assertIs(refused(BadSort, shows_longest, plain, value, 'back', ('most', 0)), value)
        for value in VALUES + ['Face', 'front', 'above', ('face',), ['back'], 'end', 'pick']:
            for sort in SORTS:
                self.assertIs(refused(BadSide, longest, plain, sort, value), value)
                self.assertIs(refused(BadSide, shows_longest, plain, sort, value, ('most', 0)), value)
                self.assertIs(refused(BadSide, shows_longest, plain, value=value, side=value, sort=sort), value)


class TestShowsLongest(unittest.TestCase):
    def test_what_longest_returns(self):
        for draft in drafts(5, 120, 3, 6):
            for sort, side in ASKED:
                result = longest(draft, sort, side)
                self.assertIs(shows_longest(draft, sort, side, result), True)
                self.assertIs(shows_longest(value=result, side=side, draft=Draft(draft.text), sort=sort), True)
                self.assertIs(shows_longest(draft, sort, side, list(result)), False)
                self.assertIs(shows_longest(draft, sort, side, result + (1,)), False)
                self.assertIs(shows_longest(draft, sort, side, result[:-1]), False)

    def test_all_stretches_of_small_cloths(self):
        verdicts = []
        for draft in drafts(6, 60, 3, 4):
            told = Told(draft)
            results = {asked: longest(draft, *asked) for asked in ASKED}
            chosen = random.Random(draft.text)
            cloths = list(listed(draft, 3))
            for ends, picks in chosen.sample(cloths, min(8, len(cloths))):
                cloth = Cloth(Draft(draft.text), ends, picks)
                stretches = floats_of(told, ends, picks)
                for thread, (first, last, _) in stretches:
                    for (sort, side), more in itertools.product(ASKED, (-1, 0, 1)):
                        many = last - first + 1 + more
                        verdict = (results[sort, side][:2] == ('most', many) and thread[0] == sort
                                   and (thread, (first, first + many - 1, side)) in stretches)
                        value = ('most', many, cloth, thread, first)
                        self.assertIs(shows_longest(draft, sort, side, value), verdict)
                        verdicts.append(verdict)
        self.assertTrue(verdicts.count(True) > 100 and verdicts.count(False) > 1000, verdicts.count(True))

    def test_no_stretch(self):
        small = plain.with_plans('a', 'p')
        for asked in ASKED:
            none = longest(small, *asked) == ('most', 0)
            for value, verdict in [(('most', 0), none), (('most', False), False), (['most', 0], False),
                                   (('most',), False),
                                   (('most', 0, 0), False), (('most', 1), False), ('most', False),
                                   (('most', '0'), False),
                                   (('most', -1), False), (('most', None), False), (('most', (0,)), False)]:
                self.assertIs(shows_longest(small, *asked, value), verdict)
        cloth = Cloth(small, ('a',), ('p',))
        self.assertIs(shows_longest(small, 'end', 'back', ('most', 0, cloth, ('end', 0), 0)), False)
        self.assertIs(shows_longest(small, 'end', 'back', ('most', 1, cloth, ('end', 0), 0)), False)
        self.assertIs(shows_longest(small, 'end', 'face', ('most', 1, cloth, ('end', 0), 0)), True)
        self.assertIs(shows_longest(small, 'end', 'face', ('most', 0)), False)

    def test_wrong_stretches(self):
        draft = plain.with_plans('a b b a', 'p q q p q')
        cloth = Cloth(draft, ('a', 'b', 'b', 'a'), ('p', 'q', 'q', 'p', 'q'))
        right = ('most', 2, cloth, ('end', 1), 1)
        self.assertIs(shows_longest(draft, 'end', 'face', right), True)
        self.assertIs(shows_longest(draft, 'end', 'face', ('most', 2, cloth, ('end', 2), 1)), True)
        other = draft.with_plans('a b b a', 'p q q p q | p')
        parts = [
            ['Most', 'endless', '', None, cloth, ('most',), True],
            [1, 3, True, 0, -2, '2', None, (2,), 999999999],
            [None, draft, Cloth(other, cloth.ends, cloth.picks),
             Cloth(draft.flipped('a', 'p'), cloth.ends, cloth.picks), (cloth,)],
            [('end', 0), ('end', 3), ('end', 4), ('end', -2), ('pick', 1), ('end', True), ('end', '1'), ['end', 1],
             ('end',),
             ('end', 1, 1), 1, None, 'end', ('End', 1), ('end', None), ('pick', 0), ('a', 1), ((), 1)],
            [0, 2, -1, True, None, '1', (1,), 5]]
        for at, others in enumerate(parts):
            for value in others:
                changed = right[:at] + (value,) + right[at + 1:]
                self.assertIs(shows_longest(draft, 'end', 'face', changed), False, changed)
        for value in VALUES + [('most', 2), ('most', 2, cloth), right + (1,), list(right), right[::-1], (right,),
                               ((),)]:
            self.assertIs(shows_longest(draft, 'end', 'face', value), False)
        for asked in ASKED[1:]:
            self.assertIs(shows_longest(draft, *asked, right), False)

    def test_true_in_the_place_of_one(self):
        cloth = Cloth(plain, ('a', 'b'), ('p', 'q'))
        for sort, side, number, first in [('end', 'face', 1, 1), ('end', 'back', 0, 1), ('pick', 'face', 1, 0),
                                          ('pick', 'back', 1, 1)]:
            told = ('most', 1, cloth, (sort, number), first)
            self.assertIs(shows_longest(plain, sort, side, told), True)
            self.assertIs(shows_longest(plain, sort, side, ('most', True) + told[2:]), False)
            self.assertIs(shows_longest(plain, sort, side, told[:4] + (bool(first),)), False)
            self.assertIs(shows_longest(plain, sort, side, told[:3] + ((sort, bool(number)), first)), False)

    def test_other_rounds(self):
        verdicts = []
        for draft in drafts(7, 120, 2, 6):
            for sort, side in ASKED:
                result = longest(draft, sort, side)
                if result[0] == 'endless':
                    for value in self.rounds_like(random.Random(draft.text), draft, sort, result):
                        verdict = rounds_hold(draft, sort, side, value)
                        self.assertIs(shows_longest(draft, sort, side, value), verdict, (draft.text, sort, side, value))
                        verdicts.append(verdict)
        self.assertTrue(verdicts.count(True) > 300 and verdicts.count(False) > 300, len(verdicts))

    @staticmethod
    def rounds_like(chosen, draft, sort, result):
        """Rounds that are doubled, begun later, or otherwise, right ones and wrong ones."""
        _, name, ahead, turn, behind, row = result
        plan, across = plans_of(draft, sort)
        yield from [
            ('endless', name, ahead, turn * 2, behind, row), ('endless', name, ahead, turn * 3, behind, row),
            ('endless', name, ahead + turn, turn, behind, row), ('endless', name, ahead, turn, turn + behind, row),
            ('endless', name, ahead + turn * 2, turn * 2, turn + behind, row),
            ('endless', name, ahead, (), behind, row),
            ('endless', name, ahead[:-1], turn, behind, row), ('endless', name, (), turn, (), row),
            ('endless', name, ahead, turn, behind, row[:-1]), ('endless', name, ahead, turn, behind, row + row),
            ('endless', name, (), turn, behind, row), ('endless', name, ahead, turn, (), row),
            ('endless', name, ahead + turn[:1], turn[1:] + turn[:1], turn[1:] + behind, row),
            ('endless', name, ahead + turn[:1], turn[1:] + turn[:1], turn[1:], row)]
        for other in plan.names + across.names:
            yield 'endless', other, ahead, turn, behind, row
            yield 'endless', name, ahead, turn, behind, (other,)
            yield 'endless', name, ahead, (other,), behind, row
            yield 'endless', name, ahead, turn + (other,), behind, row
            yield 'endless', other, ahead, turn, behind, (other,)
        rows = [(), ahead, turn, behind] + [(other,) for other in across.names] + [across.shortest()]
        for _ in range(12):
            yield ('endless', name) + tuple(chosen.choice(rows) for _ in range(3)) + (row,)

    def test_rounds_that_cannot_be_repeated(self):
        told = [
            # From none on: without the round there would be no row.
            ('( p p ) +', (), ('p',), (), False), ('( p p ) +', (), ('p', 'p'), (), False),
            ('( p p ) +', ('p', 'p'), ('p', 'p'), (), True), ('( p p ) +', ('p',), ('p', 'p'), ('p',), True),
            ('( p p ) +', ('p', 'p'), ('p',), (), False), ('( p p ) +', ('p',), ('p',), ('p',), False),
            ('( p p ) +', ('p', 'p'), ('p',) * 4, ('p', 'p'), True), ('( p p ) +', ('p', 'p'), ('p',) * 5, (), False),
            # Only once, or twice, or three times.
            ('p 4', ('p',) * 4, ('p',), (), False), ('p | p 4 | p 2', ('p',), ('p',), (), False),
            ('p | p p | p 3', ('p',), ('p',), (), False), ('p 2 p *', (), ('p',), ('p',), False),
            ('p 2 p *', (), ('p',), ('p', 'p'), True), ('p 2 p *', ('p',), ('p',) * 9, ('p',), True),
            # Now and then.
            ('( p 3 ) + | p', ('p',), ('p',), (), False),
            ('( p 3 ) + | p | ( p p p ) + p', ('p',), ('p', 'p'), (), False),
            ('( p 3 ) + | p', ('p',) * 3, ('p',) * 3, (), True), ('( p 3 ) + | p', ('p',), ('p',) * 3, (), False),
            ('q ( p q ) *', ('q',), ('p', 'q'), (), False), ('q p * q', ('q',), ('p',), ('q',), True),
            ('q p * q', (), ('p',), ('q',), False), ('q p * q', ('q',), ('p',), (), False)]
        for treadling, ahead, turn, behind, verdict in told:
            draft = plain.with_plans('b a', treadling)
            value = ('endless', 'a', ahead, turn, behind, ('b', 'a'))
            self.assertIs(rounds_hold(draft, 'end', 'face', value), verdict, (treadling, value))
            self.assertIs(shows_longest(draft, 'end', 'face', value), verdict, (treadling, value))
            self.assertIs(shows_longest(~draft, 'pick', 'face', value), verdict, (treadling, value))

    def test_rounds_that_come_again_late(self):
        # Rows have 3 or 4 names, or some times as many.
        draft = plain.with_plans('a', '( p 3 ) + | ( p 4 ) +')
        for first, many, verdict in [(12, 12, True), (3, 3, True), (4, 4, True), (3, 4, False), (4, 12, True),
                                     (6, 4, False),
                                     (3, 12, True), (9, 1, False), (12, 6, True), (6, 8, False), (8, 6, False),
                                     (12, 3, True)]:
            value = ('endless', 'a', ('p',) * first, ('p',) * many, (), ('a',))
            self.assertIs(rounds_hold(draft, 'end', 'face', value), verdict, (first, many))
            self.assertIs(shows_longest(draft, 'end', 'face', value), verdict)
        draft = plain.with_plans('a', 'p | p 2 | ( p 4 p ) +')
        for ahead, turn in [(1, 1), (1, 4), (5, 10), (5, 5)]:
            value = ('endless', 'a', ('p',) * ahead, ('p',) * turn, (), ('a',))
            self.assertIs(shows_longest(draft, 'end', 'face', value), turn % 5 == 0)

    def test_wrong_rounds(self):
        draft = plain.with_plans('b a', 'q p * q')
        right = ('endless', 'a', ('q',), ('p',), ('q',), ('b', 'a'))
        self.assertIs(shows_longest(draft, 'end', 'face', right), True)
        parts = [
            ['most', 'Endless', None, draft, ('endless',), True],
            ['b', 'c', 'p', 'q', '', None, 0, ('a',), ['a'], draft, 'ba'],
            [(), ['q'], 'q', None, ('q', 'q'), ('p',), {'q': 1}, (['q'],), (None,), (draft,)],
            [(), ['p'], 'p', None, ('q',), ('p', 'q'), {'p': 1}, (['p'],), (None,), (True,), ('a',), ('p', draft)],
            [(), ['q'], 'q', None, ('q', 'q'), ('p',), {'q': 1}, (['q'],), (None,), 1],
            [(), ['b', 'a'], ('a',), ('b',), 'ba', None, ('a', 'b'), ('b', 'a', 'b', 'a'), ('p',), {'a': 1},
             ('q', 'q'), 1]]
        for at, others in enumerate(parts):
            for value in others:
                changed = right[:at] + (value,) + right[at + 1:]
                self.assertIs(shows_longest(draft, 'end', 'face', changed), False, changed)
        for value in VALUES + [('endless',), right[:5], right + ((),), list(right), (right,), ('endless', right)]:
            self.assertIs(shows_longest(draft, 'end', 'face', value), False)
        for asked in ASKED[1:]:
            self.assertIs(shows_longest(draft, *asked, right), False)
        # The kind a is one of the draft, but stands in no row of the plan.
        none = draft.with_plans('b', 'q p * q')
        self.assertIs(shows_longest(none, 'end', 'face', right), False)
        self.assertIs(shows_longest(none, 'end', 'face', right[:5] + (('b',),)), False)

    def test_rounds_where_floats_are_not_endless(self):
        draft = plain.with_plans('( a b ) +', '( p q ) +')
        for turn in [('p',), ('q',), ('p', 'q')]:
            value = ('endless', 'a', ('p', 'q'), turn, (), ('a', 'b'))
            self.assertIs(shows_longest(draft, 'end', 'face', value), False)
        endless = plain.with_plans('a', 'p +')
        cloth = Cloth(endless, ('a',), ('p',) * 9)
        for many in (8, 9, 10):
            self.assertIs(shows_longest(endless, 'end', 'face', ('most', many, cloth, ('end', 0), 0)), False)
        self.assertIs(shows_longest(endless, 'end', 'face', ('most', 0)), False)
        self.assertIs(shows_longest(endless, 'end', 'back', ('most', 0)), True)


class TestCalmest(unittest.TestCase):
    def check(self, draft, many, cloth):
        self.assertEqual(cloth.draft, draft)
        self.assertEqual(many_at_most(Told(draft), cloth.ends, cloth.picks), many)
        threads = all_threads(cloth.ends, cloth.picks)
        self.assertEqual(max(last - first + 1 for thread in threads for first, last, _ in cloth.floats(thread)), many)

    @staticmethod
    def least_listed(draft, most):
        """The least number for all cloths of up to so many ends and picks, by what rows have in common."""
        told = Told(draft)
        both = [sum(by_length.values(), []) for by_length in told.rows_by_length(most)]

        def longest_run(signs):
            return max(len(list(group)) for _, group in itertools.groupby(signs))

        looks = [
            {(frozenset(row), tuple(longest_run([told.is_above(end, pick) for end in row]) for pick in told.picks))
             for row in both[0]},
            {(frozenset(row), tuple(longest_run([told.is_above(end, pick) for pick in row]) for end in told.ends))
             for row in both[1]}]
        return min(max([runs_of[told.picks.index(pick)] for pick in picks]
                       + [across[told.ends.index(end)] for end in ends])
                   for ends, runs_of in looks[0] for picks, across in looks[1])

    def test_against_listed_cloths(self):
        seen = {}
        for draft in drafts(8, 150, 3, 4) + drafts(9, 100, 3, 6):
            many, cloth = calmest(draft)
            self.check(draft, many, cloth)
            self.assertLessEqual(many, self.least_listed(draft, 7))
            if max(len(cloth.ends), len(cloth.picks)) < 8:
                self.assertEqual(many, self.least_listed(draft, 7))
            seen[many] = seen.get(many, 0) + 1
            again = calmest(draft=draft)
            self.assertEqual(again, (many, cloth))
        self.assertTrue({1, 2, 3, 4} <= set(seen), seen)

    def test_long_cloths_alone_are_calm(self):
        told = [
            ('a 2 | ( a b ) 3', 'p 2 | ( p q ) 3', 1, 6, 6), ('a 3 | a ( b a ) 2', 'p 2 | q ( p q ) 2', 1, 5, 5),
            ('( a 2 b ) + | a', 'q', 1, 1, 1), ('a 2 b 2 | a 3', 'p q', 2, 4, 2),
            ('a 4 | ( a b ) 2', 'p p q q | p 3 q', 2, 4, 4), ('a 4 a a *', 'p 3 p', 5, 5, 4),
            ('a 4', 'p | ( p q ) 3', 4, 4, 1)]
        for threading, treadling, many, width, height in told:
            draft = plain.with_plans(threading, treadling)
            result = calmest(draft)
            self.check(draft, *result)
            self.assertEqual((result[0], len(result[1].ends), len(result[1].picks)),
                             (many, max(width, len(result[1].ends)), max(height, len(result[1].picks))))

    def test_calm_by_other_kinds_than_the_shortest_cloth(self):
        lines = ['pick p x', 'pick q x', 'pick r x', 'pick s x',
                 'end a x ###.', 'end b x ##.#', 'end c x #.##', 'end d x .###']
        draft = Draft('\n'.join(lines + ['threading a a d d | ( a d ) 2', 'treadling s s p p | ( s p ) 2']))
        many, cloth = calmest(draft)
        self.check(draft, many, cloth)
        self.assertEqual((many, cloth.ends, cloth.picks), (1, ('a', 'd', 'a', 'd'), ('s', 'p', 's', 'p')))
        # Where the ends and the picks of the calmest rows do not go together, longer floats are the least.
        for draft in drafts(10, 150, 4, 8):
            many, cloth = calmest(draft)
            self.check(draft, many, cloth)

    def test_many_kinds(self):
        lines = ['pick p x', 'pick q x', 'pick r x', 'pick s x']
        for lifts in [('####',) * 4, ('#...', '.#..', '..#.', '...#'), ('##..', '#.#.', '#..#', '....'),
                      ('....', '#...', '##..', '###.')]:
            kinds = lines + [f'end {name} y {told}' for name, told in zip('abcd', lifts)]
            free = ['threading ( a | b | c | d ) +', 'treadling ( p | q | r | s ) +']
            self.assertEqual(calmest(Draft('\n'.join(kinds + free)))[0], 1)
            for plans in [('a b c d', 'p q r s'), ('a b c d', '( p | q | r | s ) + p q r s'),
                          ('( a | b | c | d ) 2', '( p q r s ) +'), ('( a b | c d ) +', 'p p +'),
                          ('a 4 b c d', '( p | q | r | s ) +')]:
                draft = Draft('\n'.join(kinds + ['threading ' + plans[0], 'treadling ' + plans[1]]))
                many, cloth = calmest(draft)
                self.check(draft, many, cloth)
                if max(len(cloth.ends), len(cloth.picks)) < 6:
                    self.assertEqual(many, self.least_listed(draft, 5))


class TestGuarantees(unittest.TestCase):
    def test_turned_drafts(self):
        for draft in drafts(11, 120, 3, 6):
            for (sort, other), side in itertools.product([SORTS, SORTS[::-1]], SIDES):
                result, turned = longest(draft, sort, side), longest(~draft, other, side)
                self.assertEqual(turned[0], result[0])
                if result[0] == 'most':
                    self.assertEqual(turned[1], result[1])
                if result[0] == 'most' and result[1]:
                    value = result[:2] + (~result[2], (other, result[3][1]), result[4])
                    self.assertIs(shows_longest(~draft, other, side, value), True)
                if result[0] == 'endless':
                    self.assertIs(shows_longest(~draft, other, side, result), True)
            self.assertEqual(calmest(~draft)[0], calmest(draft)[0])

    def test_other_names_another_order_and_other_plans(self):
        for draft in drafts(12, 80, 3, 4):
            told = [longest(draft, *asked)[:2] for asked in ASKED]
            told = [(word, many if word == 'most' else None) for word, many in told]
            for other in (other_names(draft), other_order(draft), written_otherwise(draft)):
                found = [longest(other, *asked)[:2] for asked in ASKED]
                self.assertEqual([(word, many if word == 'most' else None) for word, many in found], told)
                self.assertEqual(calmest(other)[0], calmest(draft)[0])

    def test_long_cloths(self):
        chosen = random.Random(13)
        width = 0
        for draft in drafts(13, 150, 3, 5):
            told = Told(draft)
            results = {asked: longest(draft, *asked) for asked in ASKED}
            least = calmest(draft)[0]
            for _ in range(3):
                ends, picks = random_cloth_rows(chosen, draft)
                if max(len(ends), len(picks)) < 15:
                    width = max(width, len(ends), len(picks))
                    self.assertGreaterEqual(many_at_most(told, ends, picks), least)
                    for (sort, _), (first, last, side) in floats_of(told, ends, picks):
                        if results[sort, side][0] == 'most':
                            self.assertLessEqual(last - first + 1, results[sort, side][1])
        self.assertEqual(width, 14)

    def test_arguments_stay_as_they_are(self):
        for draft in drafts(14, 20):
            before = dict(vars(draft))
            for asked in ASKED:
                result = longest(draft, *asked)
                self.assertEqual(longest(draft, *asked), result)
                shows_longest(draft, *asked, result)
            self.assertEqual(calmest(draft), calmest(draft))
            self.assertEqual(dict(vars(draft)), before)
