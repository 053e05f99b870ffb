"""Section 5: drafts, and section 3 (d) as far as it speaks of them."""

import random
import unittest

from treadplans.drafts import Draft
from treadplans.errors import BadDraft, BadEnd, BadName, BadPick, BadPlan
from treadplans.plans import Plan
from tests.values import NO_STRINGS, PLAIN, VALUES, refused

PICKS = ['pick p white', 'pick q red', 'pick r green', 'pick s red']
LIFTS = ['#..#', '.#..', '....', '####']
ENDS = [f'end {name} {colour} {lifts}' for name, colour, lifts in zip('abcd', ['blue', 'red', 'x', 'x'], LIFTS)]
YARNS = ['yarn b a', 'yarn s p r', 'yarn d c']
PLANS = ['threading ( a b | c ) + d', 'treadling p * ( q | r ) 2']
WHOLE = PICKS + ENDS + YARNS + PLANS
SMALL = ['pick p white', 'end a blue #', 'threading a', 'treadling p']


def draft_of(*lines):
    return Draft('\n'.join(lines))


def number_of(*lines):
    """The number with which the lines are refused."""
    return refused(BadDraft, Draft, '\n'.join(lines))


def with_line(lines, at, line):
    return lines[:at] + [line] + lines[at + 1:]


def random_draft(seed):
    chosen = random.Random(seed)
    picks = chosen.sample(['p', 'q', 'r', 'sss', 'pick', 'yarn'], chosen.randint(1, 4))
    ends = chosen.sample(['a', 'b', 'c', 'ddd', 'end', 'treadlin'], chosen.randint(1, 4))
    lines = [f'pick {name} {chosen.choice("xyz")}' for name in picks]
    for name in ends:
        lifts = ''.join(chosen.choice('#.') for _ in picks)
        lines.append(f'end {name} {chosen.choice("xyz")} {lifts}')
    for names in [picks, ends]:
        if len(names) > 1 and chosen.random() < 0.5:
            lines.append('yarn ' + ' '.join(chosen.sample(names, 2)))
    lines.append(f'threading ( {" | ".join(ends)} ) + {ends[0]}')
    lines.append(f'treadling {picks[-1]} ( {" | ".join(picks)} ) *')
    return Draft('\n'.join(lines))


class TestReading(unittest.TestCase):
    def test_the_example(self):
        plain = Draft(PLAIN)
        self.assertEqual(
            [plain.threading.names, ('a', 'b', 'a', 'b') in plain.threading, plain.treadling.counted(2),
             plain.threading.used()],
            [('a', 'b'), True, 1, (('a', 'b'),)])
        self.assertEqual(
            [plain.treadling.firsts, plain.treadling.next(1), plain.shown('a', 'q'), (~plain).text.split('\n')[2:4]],
            [(0, 2), (0,), 'white', ['end p white .#', 'end q white #.']])

    def test_the_properties(self):
        draft = draft_of(*WHOLE)
        self.assertEqual(draft.text, '\n'.join(WHOLE))
        self.assertEqual(draft.ends, ('a', 'b', 'c', 'd'))
        self.assertEqual(draft.picks, ('p', 'q', 'r', 's'))
        self.assertEqual(draft.yarns, (('a', 'b'), ('c', 'd'), ('p', 'r', 's')))
        self.assertEqual(draft.threading, Plan('( a b | c ) + d'))
        self.assertEqual(draft.treadling, Plan('p * ( q | r ) 2'))
        self.assertEqual(Draft(text='\n'.join(WHOLE)), draft)

    def test_names_stand_in_their_order(self):
        draft = draft_of('pick z w', 'pick a w', 'end y w ##', 'end b w ..', 'threading b', 'treadling a')
        self.assertEqual((draft.picks, draft.ends, draft.yarns), (('z', 'a'), ('y', 'b'), ()))

    def test_one_to_four_kinds(self):
        for picks in range(1, 5):
            for ends in range(1, 5):
                lines = PICKS[:picks] + [line[:len(line) - 4 + picks] for line in ENDS[:ends]]
                draft = draft_of(*lines, 'threading a', 'treadling p')
                self.assertEqual((len(draft.picks), len(draft.ends)), (picks, ends))

    def test_a_fifth_kind(self):
        self.assertEqual(number_of(*PICKS, 'pick t white', *ENDS, *PLANS), 5)
        self.assertEqual(number_of(*PICKS, *ENDS, 'end e blue ....', *PLANS), 9)
        self.assertEqual(number_of('pick p x', 'end a x .', 'end b x .', 'end c x .', 'end d x .', 'end e x .'), 6)

    def test_words_of_the_lines_can_be_names(self):
        draft = draft_of(
            'pick pick end', 'pick yarn pick', 'end end end ##', 'end abcdefgh abcdefgh #.',
            'yarn yarn pick', 'threading end abcdefgh', 'treadling pick yarn')
        self.assertEqual((draft.picks, draft.ends), (('pick', 'yarn'), ('end', 'abcdefgh')))
        self.assertEqual(draft.colour('pick'), 'end')

    def test_no_strings(self):
        for value in NO_STRINGS + [[PLAIN], (PLAIN,), PLAIN.split('\n')]:
            self.assertEqual(refused(BadDraft, Draft, value), 0)

    def test_texts_that_begin_wrong(self):
        self.assertEqual(number_of('end a blue ', 'threading a', 'treadling a'), 1)
        for text in ['', ' ', '\n', 'a', 'pick', 'end', 'threading a', 'end a blue #', '\n' + PLAIN, ' ' + PLAIN]:
            self.assertEqual(refused(BadDraft, Draft, text), 1, text)

    def test_lines_missing_at_the_end(self):
        for lines in [WHOLE, SMALL]:
            for many in range(1, len(lines)):
                self.assertEqual(number_of(*lines[:many]), many + 1)

    def test_lines_behind_the_last_one(self):
        for lines in [WHOLE, SMALL]:
            for behind in ['', ' ', 'treadling p', 'threading a', 'yarn a b', 'pick t white', '#', 'a']:
                self.assertEqual(number_of(*lines, behind), len(lines) + 1)
                self.assertEqual(number_of(*lines, behind, behind), len(lines) + 1)

    def test_lines_in_another_order(self):
        self.assertEqual(number_of('end a blue #', 'pick p white', 'threading a', 'treadling p'), 1)
        self.assertEqual(number_of('pick p white', 'threading a', 'end a blue #', 'treadling p'), 2)
        self.assertEqual(number_of('pick p white', 'end a blue #', 'treadling p', 'threading a'), 3)
        self.assertEqual(number_of('pick p x', 'end a x #', 'pick q x', 'threading a', 'treadling p'), 3)
        self.assertEqual(number_of('pick p x', 'pick q x', 'yarn p q', 'end a x ##', 'threading a', 'treadling p'), 3)
        self.assertEqual(number_of('pick p x', 'pick q x', 'end a x ##', 'threading a', 'yarn p q', 'treadling p'), 5)
        self.assertEqual(number_of('pick p x', 'pick q x', 'end a x ##', 'threading a', 'treadling p', 'yarn p q'), 6)
        self.assertEqual(number_of(*PICKS, *ENDS, YARNS[0], 'end e x ....', *PLANS), 10)
        self.assertEqual(number_of('pick p x', 'end a x #', 'threading a', 'threading a', 'treadling p'), 4)

    def test_left_out_lines(self):
        for at in (0, 1, 2, 3):
            lines = SMALL[:at] + SMALL[at + 1:]
            self.assertEqual(number_of(*lines), at + 1)

    def test_forms_of_picks(self):
        for line in [
            'pick', 'pick p', 'pick p white red', 'pick p white ', ' pick p white', 'pick  p white', 'pick p  white',
            'pick P white', 'pick p White', 'pick p white1', 'pick abcdefghi white', 'pick p abcdefghi', 'Pick p white',
            'picks p white', 'pick\tp white', 'pick p #', 'pick p white #', 'pick  white', 'pick p ', 'p white', '',
            'pick p white\r',
        ]:
            with self.subTest(line):
                self.assertEqual(number_of(line, *SMALL[1:]), 1)
                self.assertEqual(number_of('pick o x', line, 'end a x ##', 'threading a', 'treadling o'), 2)

    def test_forms_of_ends(self):
        for line in [
            'end', 'end a', 'end a blue', 'end a blue # .', 'end a blue # #', 'end a blue #. ', ' end a blue #.',
            'end  a blue #.', 'end a  blue #.', 'end a blue  #.', 'end A blue #.', 'end a Blue #.', 'end a blue2 #.',
            'end abcdefghi blue #.', 'end a abcdefghi #.', 'ends a blue #.', 'end #. a blue', 'end a #. blue',
            'end a blue #', 'end a blue #.#', 'end a blue ', 'end a blue xx', 'end a blue #x', 'end a blue #-',
            'end a blue ..\r', 'END a blue #.', 'end a blue #..', '',
        ]:
            with self.subTest(line):
                self.assertEqual(number_of('pick p x', 'pick q x', line, 'threading a', 'treadling p'), 3)
                lines = ['pick p x', 'pick q x', 'end o x ..', line, 'threading o', 'treadling p']
                self.assertEqual(number_of(*lines), 4)

    def test_signs_for_each_kind_of_picks(self):
        for picks in range(1, 5):
            for signs in range(0, 7):
                lines = [*PICKS[:picks], 'end a blue ' + '#.#.#.#'[:signs], 'threading a', 'treadling p']
                if signs == picks:
                    self.assertEqual(draft_of(*lines).ends, ('a',))
                else:
                    self.assertEqual(number_of(*lines), picks + 1)

    def test_names_that_stood_ahead(self):
        self.assertEqual(number_of('pick p white', 'pick p white', *SMALL[1:]), 2)
        self.assertEqual(number_of('pick p white', 'pick q x', 'pick p red', *SMALL[1:]), 3)
        self.assertEqual(number_of('pick p white', 'end p blue #', 'threading p', 'treadling p'), 2)
        self.assertEqual(number_of('pick p white', 'end a blue #', 'end a red .', 'threading a', 'treadling p'), 3)
        self.assertEqual(number_of(*PICKS, *ENDS[:3], 'end a x ....', *PLANS), 8)
        self.assertEqual(number_of(*PICKS, *ENDS[:3], 'end s x ....', *PLANS), 8)

    def test_colours_may_be_names_of_kinds(self):
        draft = draft_of('pick p p', 'pick q p', 'end a p ##', 'end b b ..', 'threading a b', 'treadling p q')
        self.assertEqual([draft.colour(name) for name in 'pqab'], ['p', 'p', 'p', 'b'])


class TestYarns(unittest.TestCase):
    def refused_yarns(self, *yarns):
        return number_of(*PICKS, *ENDS, *yarns, *PLANS) - 8

    def test_yarns(self):
        for yarns, expected in [
            ([], ()), (['yarn a b'], (('a', 'b'),)), (['yarn b a'], (('a', 'b'),)),
            (['yarn s r q p'], (('p', 'q', 'r', 's'),)), (['yarn d b a c'], (('a', 'b', 'c', 'd'),)),
            (['yarn r q', 'yarn c b', 'yarn s p', 'yarn d a'], (('a', 'd'), ('b', 'c'), ('p', 's'), ('q', 'r'))),
            (['yarn p q', 'yarn b c d'], (('b', 'c', 'd'), ('p', 'q'))),
        ]:
            self.assertEqual(draft_of(*PICKS, *ENDS, *yarns, *PLANS).yarns, expected)

    def test_forms_of_yarns(self):
        for line in [
            'yarn', 'yarn ', 'yarn a', 'yarn p', 'yarn a ', 'yarn  a b', 'yarn a  b', 'yarn a b ', ' yarn a b',
            'yarns a b', 'Yarn a b', 'a b', '',
        ]:
            self.assertEqual(self.refused_yarns(line), 1, line)
            self.assertEqual(self.refused_yarns('yarn q s', line), 2, line)

    def test_mixed(self):
        for line in ['yarn a p', 'yarn p a', 'yarn a b p', 'yarn p q r a', 'yarn a b c d p q r s']:
            self.assertEqual(self.refused_yarns(line), 1, line)

    def test_a_kind_twice(self):
        for line in ['yarn a a', 'yarn a b a', 'yarn p p', 'yarn p q r q']:
            self.assertEqual(self.refused_yarns(line), 1, line)

    def test_a_kind_of_a_yarn_above(self):
        self.assertEqual(self.refused_yarns('yarn a b', 'yarn b c'), 2)
        self.assertEqual(self.refused_yarns('yarn a b', 'yarn a b'), 2)
        self.assertEqual(self.refused_yarns('yarn a b', 'yarn p q', 'yarn d b'), 3)
        self.assertEqual(self.refused_yarns('yarn p q', 'yarn a b', 'yarn c d', 'yarn r s q'), 4)

    def test_a_name_of_no_kind(self):
        for line in ['yarn a e', 'yarn e f', 'yarn p t', 'yarn blue red', 'yarn a b x', 'yarn a A', 'yarn a #']:
            self.assertEqual(self.refused_yarns(line), 1, line)


class TestLinesOfPlans(unittest.TestCase):
    def test_the_plans_names(self):
        for plan in ['p', 'a p', 'e', 'a | ( b | q ) 2', 'blue', 'a b c d e']:
            self.assertEqual(number_of(*PICKS, *ENDS, f'threading {plan}', 'treadling p'), 9, plan)
        for plan in ['a', 'p a', 't', 'p | ( q | b ) 2', 'white', 'p q r s t']:
            self.assertEqual(number_of(*PICKS, *ENDS, 'threading a', f'treadling {plan}'), 10, plan)

    def test_no_plans(self):
        for plan in ['', ' a', 'a ', 'a  b', 'a *', '( a', 'a 5', 'a b 4 c 4', '( ( ( ( ( a ) ) ) ) )', 'a | ', 'a\t']:
            with self.subTest(plan):
                self.assertEqual(number_of(*PICKS, *ENDS, f'threading {plan}', 'treadling p'), 9)
                turned = plan.replace('a', 'p').replace('b', 'q').replace('c', 'r')
                self.assertEqual(number_of(*PICKS, *ENDS, 'threading a', f'treadling {turned}'), 10)

    def test_forms(self):
        for line in ['threading', 'thread a', 'threadings a', ' threading a', 'a', 'Threading a', 'threadinga', '']:
            self.assertEqual(number_of('pick p x', 'end a x #', line, 'treadling p'), 3, line)
        for line in ['treadling', 'tread p', 'treadlings p', ' treadling p', 'p', 'Treadling p', 'treadlingp', '']:
            self.assertEqual(number_of('pick p x', 'end a x #', 'threading a', line), 4, line)

    def test_the_first_wrong_line_counts(self):
        self.assertEqual(number_of(*with_line(with_line(WHOLE, 2, 'x'), 5, 'y')), 3)
        self.assertEqual(number_of(*with_line(with_line(WHOLE, 12, 'x'), 9, 'y')), 10)
        for at in range(len(WHOLE)):
            self.assertEqual(number_of(*with_line(WHOLE, at, '?')), at + 1)
            self.assertEqual(number_of(*WHOLE[:at], '', *WHOLE[at:]), at + 1)

    def test_kinds_need_not_stand_in_a_plan(self):
        draft = draft_of(*PICKS, *ENDS, 'threading a', 'treadling p')
        self.assertEqual((draft.threading.names, draft.treadling.names), (('a',), ('p',)))


class TestCrossings(unittest.TestCase):
    def test_all_crossings(self):
        draft = draft_of(*WHOLE)
        colours = dict(p='white', q='red', r='green', s='red', a='blue', b='red', c='x', d='x')
        for name, colour in colours.items():
            self.assertEqual(draft.colour(name), colour)
        for end, lifts in zip('abcd', LIFTS):
            for pick, sign in zip('pqrs', lifts):
                upper, lower = (end, pick) if sign == '#' else (pick, end)
                self.assertIs(draft.is_above(end, pick), sign == '#')
                self.assertEqual(draft.shown(end, pick), colours[upper])
                self.assertEqual(draft.hidden(end, pick), colours[lower])

    def test_by_name(self):
        draft = Draft(PLAIN)
        self.assertIs(draft.is_above(pick='q', end='b'), True)
        self.assertEqual(draft.shown(pick='q', end='b'), 'blue')
        self.assertEqual(draft.hidden(pick='q', end='b'), 'white')
        self.assertEqual(draft.colour(name='b'), 'blue')

    def test_no_kinds(self):
        draft = Draft(PLAIN)
        for call in [draft.is_above, draft.shown, draft.hidden, draft.flipped]:
            for value in [*(value for value in VALUES if value != 'a'), 'c', 'ab', 'blue', 'A', ['a'], ('p',)]:
                with self.subTest(call.__name__, value=value):
                    if value != 'b':
                        self.assertIs(refused(BadEnd, call, value, 'p'), value)
                        self.assertIs(refused(BadEnd, call, end=value, pick='p'), value)
                        self.assertIs(refused(BadEnd, call, value, value), value)
                    self.assertIs(refused(BadPick, call, 'a', value), value)
                    self.assertIs(refused(BadPick, call, pick=value, end='a'), value)
            self.assertEqual(refused(BadEnd, call, 'p', 'p'), 'p')
            self.assertEqual(refused(BadEnd, call, 'p', 'a'), 'p')
            self.assertEqual(refused(BadPick, call, 'a', 'b'), 'b')

    def test_no_names(self):
        draft = Draft(PLAIN)
        for value in [*(value for value in VALUES if value != 'a'), 'c', 'ab', 'blue', 'A', ['a'], ('p',)]:
            with self.subTest(value=value):
                self.assertIs(refused(BadName, draft.colour, value), value)
                self.assertIs(refused(BadName, draft.colour, name=value), value)


class TestOtherPlans(unittest.TestCase):
    def test_with_plans(self):
        draft = draft_of(*WHOLE)
        other = draft.with_plans('a 2', 'q | r')
        self.assertIsInstance(other, Draft)
        self.assertEqual(other.text.split('\n'), WHOLE[:-2] + ['threading a 2', 'treadling q | r'])
        self.assertEqual((other.threading, other.treadling), (Plan('a 2'), Plan('q | r')))
        self.assertEqual(draft.with_plans(treadling='q | r', threading='a 2'), other)
        self.assertEqual(draft, draft_of(*WHOLE))
        self.assertEqual(draft.with_plans(draft.threading.text, draft.treadling.text), draft)

    def test_no_texts_of_plans_of_its_kinds(self):
        draft = Draft(PLAIN)
        wrong = [*(value for value in VALUES if value not in ('a', 'a b')), 'c', 'a *', '( a', 'blue', 'a\n', 'A']
        for value in [*wrong, 'p', 'a p', 'a c', draft.threading, ('a',), ['a']]:
            with self.subTest(value=value):
                self.assertIs(refused(BadPlan, draft.with_plans, value, 'p'), value)
                self.assertIs(refused(BadPlan, draft.with_plans, threading=value, treadling='p'), value)
                self.assertIs(refused(BadPlan, draft.with_plans, value, 'nothing *'), value)
        for value in [*wrong, 'a', 'p a', 'p c', draft.treadling, ('p',), ['p']]:
            with self.subTest(value=value):
                self.assertIs(refused(BadPlan, draft.with_plans, 'a', value), value)
                self.assertIs(refused(BadPlan, draft.with_plans, threading='a', treadling=value), value)
        self.assertEqual(refused(BadPlan, draft.with_plans, 'p', 'a'), 'p')
        self.assertEqual(draft, Draft(PLAIN))


class TestFlipped(unittest.TestCase):
    def test_only_one_line_changes(self):
        for draft in [draft_of(*WHOLE), Draft(PLAIN)] + [random_draft(seed) for seed in range(20)]:
            text = draft.text
            lines = text.split('\n')
            for end in draft.ends:
                for pick in draft.picks:
                    other = draft.flipped(end, pick)
                    at = len(draft.picks) + draft.ends.index(end)
                    signs = ['#' if draft.is_above(end, p) != (p == pick) else '.' for p in draft.picks]
                    line = f'end {end} {draft.colour(end)} {"".join(signs)}'
                    self.assertEqual(other.text.split('\n'), with_line(lines, at, line))
                    self.assertIs(other.is_above(end, pick), not draft.is_above(end, pick))
                    self.assertEqual(other.shown(end, pick), draft.hidden(end, pick))
                    self.assertEqual(other.flipped(end, pick), draft)
            self.assertEqual(draft.text, text)

    def test_by_name(self):
        lines = Draft(PLAIN).flipped(pick='q', end='a').text.split('\n')
        self.assertEqual(lines, with_line(PLAIN.split('\n'), 2, 'end a blue ##'))


class TestTurned(unittest.TestCase):
    def test_the_lines(self):
        turned = ~draft_of(
            'pick p white', 'pick q red', 'end c blue #.', 'end a x ..', 'end b y ##',
            'yarn q p', 'yarn c b', 'threading ( a b ) + c', 'treadling q | p 2')
        self.assertIsInstance(turned, Draft)
        self.assertEqual(turned.text.split('\n'), [
            'pick c blue', 'pick a x', 'pick b y', 'end p white .#.', 'end q red ##.',
            'yarn q p', 'yarn c b', 'threading q | p 2', 'treadling ( a b ) + c'])

    def test_turned_drafts(self):
        for draft in [draft_of(*WHOLE), Draft(PLAIN)] + [random_draft(seed) for seed in range(100)]:
            with self.subTest(draft.text):
                text = draft.text
                turned = ~draft
                self.assertEqual((turned.ends, turned.picks, turned.yarns), (draft.picks, draft.ends, draft.yarns))
                self.assertEqual((turned.threading, turned.treadling), (draft.treadling, draft.threading))
                for name in draft.ends + draft.picks:
                    self.assertEqual(turned.colour(name), draft.colour(name))
                for end in draft.ends:
                    for pick in draft.picks:
                        self.assertIs(turned.is_above(pick, end), not draft.is_above(end, pick))
                        self.assertEqual(turned.shown(pick, end), draft.shown(end, pick))
                        self.assertEqual(turned.hidden(pick, end), draft.hidden(end, pick))
                        self.assertEqual(~turned.flipped(pick, end), draft.flipped(end, pick))
                self.assertEqual(~turned, draft)
                self.assertEqual((~turned).text, text)
                self.assertEqual(draft.text, text)


class TestEqual(unittest.TestCase):
    def test_equal_by_text(self):
        self.assertTrue(Draft(PLAIN) == Draft(PLAIN))
        self.assertFalse(Draft(PLAIN) != Draft(PLAIN))
        yarns = PLAIN.replace('threading', 'yarn a b\nthreading')
        other_yarns = PLAIN.replace('threading', 'yarn b a\nthreading')
        self.assertEqual(Draft(yarns).yarns, Draft(other_yarns).yarns)
        self.assertFalse(Draft(yarns) == Draft(other_yarns))
        others = [value for value in VALUES if not isinstance(value, Draft)]
        for other in [*others, PLAIN, Draft(yarns), Draft(PLAIN).with_plans('a', 'p'), ~Draft(PLAIN), Plan('a')]:
            self.assertFalse(Draft(PLAIN) == other)
            self.assertTrue(Draft(PLAIN) != other)
            self.assertFalse(other == Draft(PLAIN))

    def test_returned_sequences_are_tuples(self):
        draft = draft_of(*WHOLE)
        for value in [draft.ends, draft.picks, draft.yarns, *draft.yarns]:
            self.assertIsInstance(value, tuple)
