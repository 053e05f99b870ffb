"""Section 10: joining."""

import functools
import itertools
import random
import unittest

from treadplans.covering import covers, same
from treadplans.drafts import Draft
from treadplans.errors import BadBy, BadName, TooMany
from treadplans.joining import joinable, joined, twins
from tests.values import PLAIN, VALUES, refused
from tests.weaving import (
    LOOKS, OTHER_NAMES, Told, other_names, other_order, pictures, random_draft, written_otherwise)

plain = Draft(PLAIN)
LINES = (
    'pick p white', 'pick pp white', 'pick q red', 'end a blue #..', 'end ab blue #..', 'end aab blue ##.',
    'end b white #..', 'yarn ab b', 'yarn p q',
    'threading ( a ab + | b ) 2 | aab', 'treadling pp * q | ( p ) 2 pp p +')
NAMED = Draft('\n'.join(LINES))


def with_last_lines(*plans):
    """The draft NAMED with two other lines of plans."""
    return Draft('\n'.join(LINES[:-2] + plans))


def drafts(seed, many, places=3):
    chosen = random.Random(seed)
    return [random_draft(chosen, 3, places, yarns=True) for _ in range(many)]


def joined_by_words(draft, name, second):
    """The draft joined, told by the words of its two last lines."""
    lines = [line.split(' ') for line in draft.text.split('\n')]
    for words in lines[-2:]:
        words[1:] = [name if word == second else word for word in words[1:]]
    return Draft('\n'.join(' '.join(words) for words in lines))


def pairs_in_plans(draft):
    """All pairs of two kinds of one sort that both stand in the plans, from the text alone."""
    told = Told(draft)
    standing = [[name for name in names if name in text.split(' ')]
                for names, text in [(told.ends, told.threading), (told.picks, told.treadling)]]
    return sorted(itertools.chain.from_iterable(itertools.permutations(names, 2) for names in standing))


@functools.lru_cache(None)
def small_pictures(text, by, most=6):
    """All pictures of up to so many threads."""
    told = Told(Draft(text))
    ends, picks = told.rows_by_length(most - 1)
    return {told.picture(row, across, by) for width in ends for height in picks if width + height <= most
            for row in ends[width] for across in picks[height]}


def are_same(one, other, by):
    """Whether both drafts show the same small pictures."""
    return small_pictures(one.text, by) == small_pictures(other.text, by)


def twins_by_words(draft, by):
    told = Told(draft)
    ends = [name for name in told.ends if name in told.threading.split(' ')]
    picks = [name for name in told.picks if name in told.treadling.split(' ')]
    looks = {end: ('end',) + tuple(told.crossing(end, pick, by) for pick in picks) for end in ends}
    looks.update({pick: ('pick',) + tuple(told.crossing(end, pick, by) for end in ends) for pick in picks})
    groups = {tuple(sorted(other for other in looks if looks[other] == looks[name])) for name in looks}
    return tuple(sorted(group for group in groups if len(group) > 1))


class TestJoined(unittest.TestCase):
    def test_names_that_are_parts_of_others(self):
        told = {
            ('a', 'ab'): ('threading ( a a + | b ) 2 | aab', LINES[-1]),
            ('ab', 'a'): ('threading ( ab ab + | b ) 2 | aab', LINES[-1]),
            ('a', 'aab'): ('threading ( a ab + | b ) 2 | a', LINES[-1]),
            ('a', 'b'): ('threading ( a ab + | a ) 2 | aab', LINES[-1]),
            ('p', 'pp'): (LINES[-2], 'treadling p * q | ( p ) 2 p p +'),
            ('pp', 'p'): (LINES[-2], 'treadling pp * q | ( pp ) 2 pp pp +'),
            ('q', 'p'): (LINES[-2], 'treadling pp * q | ( q ) 2 pp q +')}
        for (name, second), plans in told.items():
            result = joined(NAMED, name, second)
            self.assertIsInstance(result, Draft)
            self.assertEqual(result.text, with_last_lines(*plans).text)
            self.assertEqual(joined(second=second, draft=NAMED, name=name), result)
        self.assertEqual(NAMED.text, '\n'.join(LINES))

    def test_kinds_in_no_plan(self):
        small = with_last_lines('threading a a', 'treadling q')
        self.assertEqual(joined(small, 'a', 'b'), small)
        self.assertEqual(joined(small, 'p', 'pp'), small)
        self.assertEqual(joined(small, 'b', 'a'), with_last_lines('threading b b', 'treadling q'))
        self.assertEqual(joined(small, 'p', 'q'), with_last_lines('threading a a', 'treadling p'))

    def test_all_pairs(self):
        for draft in drafts(1, 60):
            for kinds in (draft.ends, draft.picks):
                for name, second in itertools.permutations(kinds, 2):
                    self.assertEqual(joined(draft, name, second), joined_by_words(draft, name, second))

    def test_refused_names(self):
        kinds = NAMED.ends + NAMED.picks
        wrong = VALUES + ['c', 'A', '', 'a ', 'aa', 'white', 'end', 'threading', ('a',), ['a'], {'a': 1}, b'a']
        wrong = [value for value in wrong if value not in kinds]
        for value in wrong:
            for second in kinds + (value, 'no'):
                self.assertIs(refused(BadName, joined, NAMED, value, second), value)
            for name in kinds:
                self.assertIs(refused(BadName, joined, NAMED, name, value), value)
            self.assertIs(refused(BadName, joined, draft=NAMED, second=value, name='a'), value)
        for name in kinds:
            for second in kinds:
                if name == second or (name in NAMED.ends) != (second in NAMED.ends):
                    self.assertIs(refused(BadName, joined, NAMED, name, second), second)


class TestJoinable(unittest.TestCase):
    def test_against_small_cloths(self):
        answers = []
        for draft in drafts(2, 70):
            for by in LOOKS:
                pairs = pairs_in_plans(draft)
                told = [pair for pair in pairs if are_same(draft, joined_by_words(draft, *pair), by)]
                found = joinable(draft, by=by)
                self.assertEqual(found, tuple(told), (draft.text, by))
                self.assertEqual(found, tuple(sorted(set(found))))
                answers.extend([pair in found for pair in pairs])
                self.assertEqual(joinable(by=by, draft=Draft(draft.text)), found)
            self.assertEqual(joinable(draft), joinable(draft, by='face'))
        self.assertTrue(answers.count(True) > 100 and answers.count(False) > 100, len(answers))

    def test_kinds_with_several_places(self):
        for draft in drafts(3, 60, 6):
            for by in LOOKS:
                found = joinable(draft, by=by)
                for name, second in pairs_in_plans(draft):
                    result = same(draft, joined_by_words(draft, name, second), by=by)
                    self.assertEqual((name, second) in found, result == ('same',))

    def test_one_way_alone(self):
        ways = set()
        for draft in drafts(4, 200, 5):
            for by in LOOKS:
                found = joinable(draft, by=by)
                ways |= {(second, name) in found for name, second in found}
        self.assertEqual(ways, {True, False})

    def test_other_rows_that_show_the_same(self):
        draft = Draft('\n'.join(('pick p x', 'end a x #', 'end b y .', 'threading a | ( a b ) +', 'treadling p')))
        self.assertEqual(joinable(draft), (('a', 'b'), ('b', 'a')))
        self.assertEqual([joinable(draft, by='lifts'), joinable(draft, by='both')], [(), ()])

    def test_kinds_in_no_plan_are_not_joined(self):
        free = plain.with_plans('a +', 'p +')
        self.assertEqual([joinable(free, by=by) for by in LOOKS], [()] * 3)
        lines = ['pick p x', 'pick q x', 'end a x ##', 'end b x ##', 'end c x ##']
        draft = Draft('\n'.join(lines + ['threading ( a | c ) +', 'treadling q']))
        self.assertEqual(joinable(draft, by='both'), (('a', 'c'), ('c', 'a')))
        draft = draft.with_plans('a | b +', 'p | q')
        self.assertEqual(joinable(draft), (('a', 'b'), ('b', 'a'), ('p', 'q'), ('q', 'p')))

    def test_the_names_ascend_over_both_sorts(self):
        draft = Draft('\n'.join(('pick b x', 'pick d x', 'end c x ##', 'end a x ##', 'threading a | c',
                                 'treadling d | b')))
        self.assertEqual(joinable(draft), (('a', 'c'), ('b', 'd'), ('c', 'a'), ('d', 'b')))

    def test_refused_ways_of_looking(self):
        alone = Draft('pick p x\nend a x #\nthreading a\ntreadling p')
        for value in VALUES + ['Face', ['face'], 'back']:
            for draft in (plain, alone):
                self.assertIs(refused(BadBy, joinable, draft, by=value), value)
                self.assertIs(refused(BadBy, twins, draft, by=value), value)
        for function in (joinable, twins):
            with self.assertRaises(TypeError):
                function(plain, 'face')
            self.assertEqual(function(alone), ())

    def test_too_many(self):
        seen = set()
        for draft in hard_drafts():
            outcomes = []
            for name, second in pairs_in_plans(draft):
                try:
                    same(draft, joined_by_words(draft, name, second))
                except TooMany as caught:
                    outcomes.append(caught.value)
                else:
                    outcomes.append(None)
            seen.add((outcomes[0], 3000 in outcomes))
            if 3000 in outcomes:
                self.assertEqual(refused(TooMany, joinable, draft), 3000)
                self.assertEqual(refused(BadBy, joinable, draft, by='no'), 'no')
            else:
                joinable(draft)
            twins(draft)
        # Also where it is raised for another pair than the first one alone.
        self.assertLessEqual({(3000, True), (None, True), (None, False)}, seen)


def hard_drafts():
    """Drafts with full stands of many rows, if joined with some kind."""
    lifts = ('#...', '.#..', '..#.', '...#')
    lines = [f'pick {name} x' for name in 'pqrs'] + [f'end {name} y {told}' for name, told in zip('abcd', lifts)]
    plans = [
        '( d * a + c | d b c + ) +', '( c * a + b | c d b + ) +', '( b | c a | b b * ) +', '( a a d a * ) +',
        'b | b + a * d + c a']
    return [Draft('\n'.join(lines + ['threading ' + text, 'treadling p'])) for text in plans]


class TestTwins(unittest.TestCase):
    def test_examples(self):
        lines = ['pick p x', 'pick q y', 'pick r x', 'end d x #..', 'end b x ##.', 'end c x #..', 'end a y #..']
        draft = Draft('\n'.join(lines + ['threading ( a | b | c | d ) +', 'treadling p | q | r']))
        # All crossings with p and r show x or y as the end lies; the end b shows x over q.
        self.assertEqual(twins(draft), (('c', 'd'),))
        self.assertEqual(twins(draft, by='lifts'), (('a', 'c', 'd'),))
        self.assertEqual(twins(draft, by='both'), (('c', 'd'),))
        small = draft.with_plans('( a | b | c | d ) +', 'p')
        self.assertEqual(twins(small), (('b', 'c', 'd'),))
        self.assertEqual(twins(small, by='lifts'), (('a', 'b', 'c', 'd'),))
        across = draft.with_plans('a | b | d', 'r | q')
        self.assertEqual(twins(across), (('a', 'd'),))
        self.assertEqual(twins(across.with_plans('a', 'r | q | p')), (('p', 'q'),))
        self.assertEqual(twins(across.with_plans('a', 'r | q | p'), by='lifts'), (('q', 'r'),))
        self.assertEqual(twins(by='both', draft=across), ())

    def test_at_random(self):
        sizes = set()
        for draft in drafts(5, 250) + drafts(6, 100, 6):
            for by in LOOKS:
                found = twins(draft, by=by)
                self.assertEqual(found, twins_by_words(draft, by), (draft.text, by))
                sizes |= {len(found)} | {len(group) + 10 for group in found}
            self.assertEqual(twins(draft), twins(draft=draft, by='face'))
        self.assertLessEqual({0, 1, 2, 12, 13}, sizes)

    def test_twins_are_joinable(self):
        many = 0
        for draft in drafts(7, 150, 5):
            for by in LOOKS:
                found = joinable(draft, by=by)
                for group in twins(draft, by=by):
                    many += 1
                    self.assertLessEqual(set(itertools.permutations(group, 2)), set(found))
        self.assertGreater(many, 100)


class TestGuarantees(unittest.TestCase):
    def test_joined_drafts_show_the_same_pictures(self):
        many = 0
        for draft in drafts(8, 60, 5):
            for by in LOOKS:
                for name, second in joinable(draft, by=by)[:2]:
                    many += 1
                    other = joined(draft, name, second)
                    self.assertEqual([covers(draft, other, by=by)[0], covers(other, draft, by=by)[0]], ['covers'] * 2)
                    for width, height in itertools.product(range(1, 5), range(1, 4)):
                        both = [set(pictures(one, width, height, by)) for one in (draft, other)]
                        self.assertEqual(*both)
        self.assertGreater(many, 40)

    def test_turned_drafts(self):
        for draft in drafts(9, 80, 4):
            for by in LOOKS:
                self.assertEqual(twins(~draft, by=by), twins(draft, by=by))
                self.assertEqual(joinable(~draft, by=by), joinable(draft, by=by))
            for name, second in pairs_in_plans(draft):
                self.assertEqual(joined(~draft, name, second), ~joined(draft, name, second))

    def test_other_names_another_order_and_other_plans(self):
        for draft in drafts(10, 60):
            for by in LOOKS:
                pairs, groups = joinable(draft, by=by), twins(draft, by=by)
                renamed = tuple(sorted((OTHER_NAMES[name], OTHER_NAMES[second]) for name, second in pairs))
                self.assertEqual(joinable(other_names(draft), by=by), renamed)
                grouped = tuple(sorted(tuple(sorted(OTHER_NAMES[name] for name in group)) for group in groups))
                self.assertEqual(twins(other_names(draft), by=by), grouped)
                self.assertEqual((joinable(other_order(draft), by=by), twins(other_order(draft), by=by)),
                                 (pairs, groups))
                self.assertEqual(twins(written_otherwise(draft), by=by), groups)

    def test_arguments_stay_as_they_are(self):
        for draft in drafts(11, 20):
            before = dict(vars(draft))
            self.assertEqual(joinable(draft), joinable(draft))
            self.assertEqual(twins(draft), twins(draft))
            for name, second in pairs_in_plans(draft):
                self.assertEqual(joined(draft, name, second), joined(draft, name, second))
            self.assertEqual(dict(vars(draft)), before)
