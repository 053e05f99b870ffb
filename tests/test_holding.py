"""Section 11: holding together."""

import functools
import itertools
import random
import unittest

from treadplans.cloths import Cloth
from treadplans.drafts import Draft
from treadplans.errors import BadName
from treadplans.holding import apart, holds, mends, shows_holds
from tests.threads import all_threads, cloths_enough, come_to, parts_of, steps_of
from tests.values import PLAIN, VALUES, refused
from tests.weaving import Told, other_names, other_order, random_cloth_rows, random_draft, written_otherwise

plain = Draft(PLAIN)
TWILL = Draft('\n'.join((
    'pick p white', 'pick q white', 'end a blue #.', 'end b blue .#', 'end c blue ..',
    'threading ( a | b | c ) +', 'treadling ( p | q ) +')))
# Each end lies over one pick and below the other one, and each cloth has all four kinds.
HELD = plain.with_plans('( a b | b a ) +', '( p q ) +')


def drafts(seed, many, kinds=3, places=3):
    chosen = random.Random(seed)
    return [random_draft(chosen, kinds, places, yarns=chosen.random() < 0.7) for _ in range(many)]


@functools.lru_cache(None)
def held_drafts(seed, many):
    """Drafts of which the smallest cloth has one part."""
    chosen = random.Random(seed)
    found = []
    while len(found) < many:
        draft = random_draft(chosen, 3, 3, yarns=chosen.random() < 0.6)
        if chosen.random() < 0.8:
            draft = draft.with_plans(*[some_with_all(chosen, plan) for plan in (draft.threading, draft.treadling)])
        cloth = (draft.threading.shortest(), draft.treadling.shortest())
        if len(parts_of(come_to(Told(draft), *cloth))[0]) == 1:
            found.append(draft)
    return found


def some_with_all(chosen, plan):
    """The text of a plan with all its names behind its rows, perhaps with these rows, too."""
    text = ' '.join(chosen.sample(plan.names, len(plan.names)))
    return chosen.choice([text, f'( {plan.text} ) {text}', f'( {plan.text} ) + {text}', f'{plan.text} | {text}'])


def does_hold(draft):
    """Whether each cloth has one part, told by cloths that are enough."""
    told = Told(draft)
    return all(len(parts_of(come_to(told, *cloth))[0]) == 1 for cloth in cloths_enough(told))


def subsets(row):
    numbers = range(len(row))
    return list(itertools.chain.from_iterable(itertools.combinations(numbers, many) for many in range(len(row) + 1)))


def can_go(told, cloth, ends, picks):
    """Whether these threads can be lifted off a cloth, and are some, but not all."""
    lifted = {('end', at) for at in ends} | {('pick', at) for at in picks}
    threads = set(all_threads(cloth.ends, cloth.picks))
    steps = steps_of(told, cloth.ends, cloth.picks)
    return bool(lifted) and lifted < threads and not any(steps[thread] & lifted for thread in threads - lifted)


class TestHolds(unittest.TestCase):
    def test_examples(self):
        self.assertEqual([holds(plain)[0], holds(TWILL)[0], holds(HELD)], ['falls', 'falls', ('holds',)])
        self.assertEqual(holds(draft=HELD), holds(Draft(HELD.text)))

    def test_against_cloths(self):
        answers = {True: 0, False: 0}
        for draft in drafts(1, 250) + held_drafts(2, 250):
            told = Told(draft)
            result = holds(draft)
            answers[result == ('holds',)] += 1
            if result == ('holds',):
                self.assertTrue(does_hold(draft), draft.text)
            else:
                word, cloth, ends, picks = result
                self.assertEqual((word, cloth.draft), ('falls', draft))
                self.assertGreater(len(parts_of(come_to(told, cloth.ends, cloth.picks))[0]), 1)
                self.assertTrue(can_go(told, cloth, ends, picks), draft.text)
                self.assertEqual((ends, picks), (tuple(sorted(set(ends))), tuple(sorted(set(picks)))))
            self.assertEqual(holds(draft)[0], result[0])
        self.assertGreater(min(answers.values()), 40, answers)

    def test_against_all_small_cloths(self):
        answers = set()
        for draft in drafts(16, 60) + held_drafts(17, 60):
            told = Told(draft)
            rows = [sum(by_length.values(), []) for by_length in told.rows_by_length(3)]
            many = [len(parts_of(come_to(told, *cloth))[0]) for cloth in itertools.product(*rows)]
            result = holds(draft)
            if result == ('holds',):
                self.assertLessEqual(set(many), {1})
            elif max(len(result[1].ends), len(result[1].picks)) < 4:
                self.assertGreater(max(many), 1)
            answers.add((result[0], len(many) > 20))
        self.assertEqual(len(answers), 4)

    def test_yarns(self):
        lines = ['pick p x', 'pick q x', 'pick r x', 'end a x #..', 'end b x .#.', 'end c x ..#']
        free = ['threading ( a | b | c ) +', 'treadling ( p | q | r ) +']
        told = {
            (): 'falls', ('yarn a b c',): 'falls', ('yarn p q r',): 'falls', ('yarn a b c', 'yarn p q r'): 'falls',
            ('yarn a b',): 'falls'}
        for yarns, word in told.items():
            self.assertEqual(holds(Draft('\n'.join(lines + list(yarns) + free)))[0], word, yarns)
        # One end lies over the pick, the other one below: their yarn holds both to it.
        one = ['threading a b', 'treadling p +']
        self.assertEqual(holds(Draft('\n'.join(lines + one)))[0], 'falls')
        self.assertEqual(holds(Draft('\n'.join(lines + ['yarn b a'] + one))), ('holds',))
        # Kinds of the yarn that stand in no cloth hold nothing together.
        self.assertEqual(holds(Draft('\n'.join(lines + ['yarn b c', 'threading a b', 'treadling p +'])))[0], 'falls')
        across = ['threading a +', 'treadling p q']
        self.assertEqual(holds(Draft('\n'.join(lines + across)))[0], 'falls')
        self.assertEqual(holds(Draft('\n'.join(lines + ['yarn r q p'] + across))), ('holds',))
        self.assertEqual(holds(Draft('\n'.join(lines + ['yarn r q'] + across)))[0], 'falls')

    def test_one_set_of_kinds_that_falls_apart(self):
        # Only where a or b stands alone, or p or q, does the cloth fall apart.
        for threading, treadling in [('a b | b a +', 'q p +'), ('( a b ) 2 | b 3', 'p p q | q p'), ('b a', 'q p | p')]:
            draft = plain.with_plans(threading, treadling)
            self.assertEqual(holds(draft)[0], 'holds' if does_hold(draft) else 'falls')
        draft = plain.with_plans('a b | b a | ( a b ) 2', '( p q ) + | q p p')
        self.assertEqual(holds(draft), ('holds',))
        draft = plain.with_plans('a b | b a | ( a b ) 2', '( p q ) + | q 3')
        word, cloth, ends, picks = holds(draft)
        self.assertEqual((word, cloth.picks), ('falls', ('q', 'q', 'q')))
        self.assertIs(shows_holds(draft, (word, cloth, ends, picks)), True)


class TestShowsHolds(unittest.TestCase):
    def test_what_holds_returns(self):
        for draft in drafts(3, 200):
            result = holds(draft)
            self.assertIs(shows_holds(draft, result), True)
            self.assertIs(shows_holds(value=result, draft=Draft(draft.text)), True)
            self.assertIs(shows_holds(draft, list(result)), False)
            self.assertIs(shows_holds(draft, result + result[-1:]), False)
            self.assertIs(shows_holds(draft, result[:-1]), False)
            self.assertIs(shows_holds(draft, ('holds',)), result == ('holds',))

    def test_all_parts_of_small_cloths(self):
        verdicts = []
        for draft in drafts(4, 120) + [HELD, plain]:
            told = Told(draft)
            chosen = random.Random(draft.text)
            for _ in range(2):
                cloth = Cloth(Draft(draft.text), *random_cloth_rows(chosen, draft, 2))
                if len(cloth) > 7:
                    continue
                for ends, picks in itertools.product(subsets(cloth.ends), subsets(cloth.picks)):
                    verdict = can_go(told, cloth, ends, picks)
                    self.assertIs(shows_holds(draft, ('falls', cloth, ends, picks)), verdict)
                    verdicts.append(verdict)
        self.assertTrue(verdicts.count(True) > 300 and verdicts.count(False) > 300, len(verdicts))

    def test_several_parts_together(self):
        cloth = Cloth(TWILL, ('c', 'a', 'b', 'a', 'c'), ('p', 'q', 'p'))
        # The ends c lie below all: all but one or both of them are lifted off.
        for ends in [(0, 1, 2, 3), (1, 2, 3, 4), (1, 2, 3)]:
            self.assertIs(shows_holds(TWILL, ('falls', cloth, ends, (0, 1, 2))), True)
        for ends, picks in [((0, 1, 2, 3, 4), (0, 1, 2)), ((), ()), ((0,), ()), ((1, 2), (0, 1, 2)),
                            ((1, 2, 3), (0, 1))]:
            self.assertIs(shows_holds(TWILL, ('falls', cloth, ends, picks)), False)
        one = Cloth(plain, ('a', 'b', 'a', 'b'), ('p',))
        for ends, picks, verdict in [((0,), (), True), ((2,), (), True), ((0, 2), (), True), ((0, 2), (0,), True),
                                     ((0, 1, 2), (0,), True), ((0, 2, 3), (0,), True), ((1,), (), False),
                                     ((0,), (0,), False), ((0, 1, 2, 3), (), False), ((), (0,), False)]:
            self.assertIs(shows_holds(plain, ('falls', one, ends, picks)), verdict, (ends, picks))

    def test_split_yarns(self):
        lines = ['pick p x', 'end a x #', 'end b x #', 'yarn a b', 'threading ( a | b ) +', 'treadling p +']
        draft = Draft('\n'.join(lines))
        cloth = Cloth(draft, ('a', 'b', 'a'), ('p', 'p'))
        told = [((0, 1, 2), (), True), ((0, 1, 2), (1,), True), ((0, 1), (), False), ((0, 2), (), False),
                ((1,), (), False)]
        for ends, picks, verdict in told:
            self.assertIs(shows_holds(draft, ('falls', cloth, ends, picks)), verdict)
        turned = [(picks, ends, verdict) for ends, picks, verdict in told]
        for ends, picks, verdict in turned:
            # Turned, the picks lie over the ends.
            self.assertIs(shows_holds(~draft, ('falls', ~cloth, ends, picks)), verdict)

    def test_wrong_values(self):
        cloth = Cloth(plain, ('a', 'b'), ('p',))
        self.assertIs(shows_holds(plain, ('falls', cloth, (0,), ())), True)
        self.assertIs(shows_holds(plain, ('falls', cloth, (0,), (0,))), True)
        other = plain.with_plans('( a b ) + | a', plain.treadling.text)
        wrong = [
            ('falls', cloth, (0,)), ('falls', cloth, (0,), (), ()), ('falls', cloth), ('falls',),
            ('falls', (cloth,), (0,), ()),
            ['falls', cloth, (0,), ()], ('Falls', cloth, (0,), ()), ('holds', cloth, (0,), ()),
            ('apart', cloth, (0,), ()),
            ('falls', cloth, [0], ()), ('falls', cloth, (0,), []), ('falls', cloth, (False,), ()),
            ('falls', cloth, (0,), (False,)),
            ('falls', cloth, (0, 0), ()), ('falls', cloth, (1, 0), ()), ('falls', cloth, (2,), ()),
            ('falls', cloth, (-2,), ()),
            ('falls', cloth, (-1,), ()), ('falls', cloth, (0,), (1,)), ('falls', cloth, (0,), (-1,)),
            ('falls', cloth, (0, 2), ()),
            ('falls', cloth, ('0',), ()), ('falls', cloth, (None,), ()), ('falls', cloth, 0, ()),
            ('falls', cloth, (0,), None),
            ('falls', cloth, ('a',), ()), ('falls', cloth, ((0,),), ()), ('falls', cloth, {0: 1}, ()),
            ('falls', cloth, '', ()),
            ('falls', Cloth(other, ('a', 'b'), ('p',)), (0,), ()), ('falls', plain, (0,), ()),
            ('falls', None, (0,), ()),
            ('falls', Cloth(plain, ('a', 'b'), ('p', 'q')), (0,), ()), ('falls', ('a', 'b'), (0,), ()),
            ('holds',), ('holds', ()), ['holds'], 'holds', ('falls', 'holds'), (('holds',),), ('',), (plain,),
            (cloth, 1, 2, 3)]
        for value in VALUES + wrong:
            self.assertIs(shows_holds(plain, value), False, value)
            if value != ('holds',):
                self.assertIs(shows_holds(HELD, value), False, value)
        wide = Cloth(TWILL, ('c', 'c', 'c', 'c'), ('p', 'p', 'q'))
        self.assertIs(shows_holds(TWILL, ('falls', wide, (0, 1), (0, 1, 2))), True)
        for ends, picks in [((0, True), (0, 1, 2)), ((0, 1), (0, True, 2)), ((1, 0), (0, 1, 2)), ((0, 1), (0, 2, 1)),
                            ((0, 1, 1), (0, 1, 2)), ((0, 1, 4), (0, 1, 2)), ((0, 1), (0, 1, 2, 3)),
                            ([0, 1], (0, 1, 2))]:
            self.assertIs(shows_holds(TWILL, ('falls', wide, ends, picks)), False)

    def test_holds_where_a_cloth_falls_apart(self):
        self.assertIs(shows_holds(HELD, ('holds',)), True)
        for draft in (plain, TWILL):
            self.assertIs(shows_holds(draft, ('holds',)), False)
        cloth = Cloth(HELD, ('a', 'b'), ('p', 'q'))
        for ends, picks in itertools.product(subsets(cloth.ends), subsets(cloth.picks)):
            self.assertIs(shows_holds(HELD, ('falls', cloth, ends, picks)), False)


class TestApart(unittest.TestCase):
    def test_the_example(self):
        self.assertEqual(apart(TWILL, 'c', 'c')[0], 'cloth')
        self.assertEqual(apart(second='c', name='c', draft=TWILL)[2:], apart(TWILL, 'c', 'c')[2:])

    def test_against_cloths(self):
        answers = {}
        for draft in drafts(5, 160) + held_drafts(6, 100):
            told = Told(draft)
            come = [(cloth, come_to(told, *cloth)) for cloth in cloths_enough(told)]
            kinds = draft.ends + draft.picks
            for name, second in itertools.product(kinds, kinds):
                result = apart(draft, name, second)
                are_apart = any(self.come_apart(cloth, found, name, second) for cloth, found in come)
                answers[name == second, are_apart] = answers.get((name == second, are_apart), 0) + 1
                if not are_apart:
                    self.assertEqual(result, ('never',), (draft.text, name, second))
                    continue
                word, cloth, thread, other = result
                self.assertEqual((word, cloth.draft), ('cloth', draft))
                self.assertNotEqual(thread, other)
                for (sort, number), kind in [(thread, name), (other, second)]:
                    self.assertEqual((cloth.ends if sort == 'end' else cloth.picks)[number], kind)
                parts, _ = parts_of(come_to(told, cloth.ends, cloth.picks))
                self.assertFalse(any(self.is_in(thread, part) and self.is_in(other, part) for part in parts))
        self.assertGreater(min(answers.values()), 150, answers)
        self.assertEqual(len(answers), 4)

    @staticmethod
    def is_in(thread, part):
        return thread[1] in part[('end', 'pick').index(thread[0])]

    @staticmethod
    def come_apart(cloth, found, name, second):
        """Whether a cloth has two different threads of these kinds in different parts."""
        ends, picks = cloth
        named = {('end', at): kind for at, kind in enumerate(ends)}
        named.update({('pick', at): kind for at, kind in enumerate(picks)})
        return any(one != other and named[one] == name and named[other] == second
                   and not (other in found[one] and one in found[other]) for one in found for other in found)

    def test_one_kind_twice(self):
        # In no row does the end a stand twice; b and c lie below all picks, but c has a yarn.
        draft = Draft('\n'.join((
            'pick p x', 'end a x #', 'end b x .', 'end c x .', 'end d x .', 'yarn c d',
            'threading a | b b | c c | a d a', 'treadling p')))
        self.assertEqual(apart(draft, 'a', 'a')[0], 'cloth')
        small = draft.with_plans('a | b b | c c | a c d', 'p')
        told = [apart(small, name, name)[0] for name in 'abcd']
        self.assertEqual(told, ['never', 'cloth', 'never', 'never'])
        self.assertEqual(apart(small, 'c', 'd'), ('never',))
        self.assertEqual(apart(small, 'p', 'p'), ('never',))
        self.assertEqual(apart(small.with_plans('a', 'p 2'), 'p', 'p')[0], 'cloth')
        self.assertEqual([apart(small, 'a', 'c')[0], apart(small, 'a', 'b')[0]], ['cloth', 'never'])

    def test_kinds_in_no_plan(self):
        draft = TWILL.with_plans('a +', 'p +')
        for name, second in itertools.product('abcpq', 'abcpq'):
            word = 'cloth' if {name, second} <= {'a', 'p'} else 'never'
            self.assertEqual(apart(draft, name, second)[0], word)
            if word == 'never':
                self.assertEqual(apart(draft, name, second), ('never',))

    def test_refused_names(self):
        wrong = [value for value in VALUES if value != 'a'] + ['d', 'ab', ('a',), ['a'], 'A', 'end', b'a', 'white',
                                                               'blue']
        for value in wrong:
            self.assertIs(refused(BadName, apart, TWILL, value, 'a'), value)
            self.assertIs(refused(BadName, apart, TWILL, value, 'no'), value)
            self.assertIs(refused(BadName, apart, TWILL, 'p', value), value)
            self.assertIs(refused(BadName, apart, TWILL, second=value, name='a'), value)


class TestMends(unittest.TestCase):
    @staticmethod
    def flipped(draft, end, pick):
        """The draft flipped, by its text alone."""
        lines = draft.text.split('\n')
        for number, line in enumerate(lines):
            words = line.split(' ')
            if words[:2] == ['end', end]:
                signs = list(words[3])
                at = Told(draft).picks.index(pick)
                signs[at] = '.' if signs[at] == '#' else '#'
                lines[number] = ' '.join(words[:3] + [''.join(signs)])
        return Draft('\n'.join(lines))

    def test_against_flipped_drafts(self):
        sizes = set()
        for draft in held_drafts(7, 120) + drafts(8, 60):
            found = mends(draft)
            told = []
            for end, pick in itertools.product(sorted(draft.ends), sorted(draft.picks)):
                other = self.flipped(draft, end, pick)
                self.assertEqual(other, draft.flipped(end, pick))
                if does_hold(other):
                    told.append((end, pick))
                self.assertEqual(holds(other) == ('holds',), (end, pick) in found)
            self.assertEqual(found, tuple(told))
            sizes.add((len(told) > 0, len(told) == len(draft.ends) * len(draft.picks), holds(draft)[0]))
        self.assertGreater(len(sizes), 3)

    def test_kinds_in_no_plan(self):
        # Whatever is flipped where c or r crosses, each cloth has a and b, and p and q.
        lines = ['pick q x', 'pick r x', 'pick p x', 'end c x #..', 'end b x #..', 'end a x ..#']
        held = Draft('\n'.join(lines + ['threading ( b a ) +', 'treadling ( p q ) +']))
        self.assertEqual(holds(held), ('holds',))
        self.assertEqual(mends(held), (('a', 'r'), ('b', 'r'), ('c', 'p'), ('c', 'q'), ('c', 'r')))
        self.assertEqual(mends(draft=held), mends(Draft(held.text)))
        self.assertEqual(mends(held.with_plans('a', 'p')), ())
        falls = held.flipped('a', 'q')
        self.assertEqual([holds(falls)[0], mends(falls)], ['falls', (('a', 'q'),)])


class TestGuarantees(unittest.TestCase):
    def test_turned_drafts(self):
        for draft in drafts(9, 80) + held_drafts(10, 80):
            self.assertEqual(holds(~draft)[0], holds(draft)[0])
            self.assertEqual(mends(~draft), tuple(sorted((pick, end) for end, pick in mends(draft))))
            kinds = draft.ends + draft.picks
            for name, second in itertools.product(kinds, kinds):
                self.assertEqual(apart(~draft, name, second)[0], apart(draft, name, second)[0])
                self.assertEqual(apart(draft, second, name)[0], apart(draft, name, second)[0])

    def test_other_names_another_order_and_other_plans(self):
        for draft in drafts(11, 60) + held_drafts(12, 60):
            told = holds(draft)[0], len(mends(draft))
            for other in (other_names(draft), other_order(draft), written_otherwise(draft)):
                self.assertEqual((holds(other)[0], len(mends(other))), told)

    def test_long_cloths(self):
        chosen = random.Random(13)
        longest = 0
        for draft in drafts(13, 120) + held_drafts(14, 120):
            told = Told(draft)
            kinds = draft.ends + draft.picks
            never = [(name, second) for name, second in itertools.product(kinds, kinds)
                     if apart(draft, name, second) == ('never',)]
            for _ in range(3):
                ends, picks = random_cloth_rows(chosen, draft)
                if max(len(ends), len(picks)) < 15:
                    longest = max(longest, len(ends), len(picks))
                    found = come_to(told, ends, picks)
                    if holds(draft) == ('holds',):
                        self.assertEqual(len(parts_of(found)[0]), 1)
                    for name, second in never:
                        self.assertFalse(TestApart.come_apart((ends, picks), found, name, second))
        self.assertEqual(longest, 14)

    def test_arguments_stay_as_they_are(self):
        for draft in drafts(15, 20):
            before = dict(vars(draft))
            result = holds(draft)
            self.assertEqual(holds(draft), result)
            self.assertEqual(mends(draft), mends(draft))
            self.assertEqual(apart(draft, draft.ends[0], draft.picks[0]), apart(draft, draft.ends[0], draft.picks[0]))
            shows_holds(draft, result)
            self.assertEqual(dict(vars(draft)), before)
