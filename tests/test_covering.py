"""Section 9: covering."""

import itertools
import random
import unittest

from treadplans.cloths import Cloth, alike
from treadplans.covering import covers, same, shows_covers
from treadplans.drafts import Draft
from treadplans.errors import BadBy, TooMany
from tests.papers import Judge
from tests.values import PLAIN, VALUES, refused
from tests.weaving import (
    LOOKS, Told, missing, other_names, other_order, pictures, random_draft, with_random_plans, written_otherwise)

plain = Draft(PLAIN)
TWILL = Draft('\n'.join((
    'pick p white', 'pick q white', 'end a blue #.', 'end b blue .#', 'end c blue ..',
    'threading ( a | b | c ) +', 'treadling ( p | q ) +')))
ONE_KIND = 'pick p x\nend a y #\nthreading {}\ntreadling {}'


def drafts_beside(seed, many, kinds=2, places=4, most=300):
    """Pairs of drafts at random of which one covers the other one now and then, and a way of looking.

    Full stands have at most so many rows.
    """
    chosen = random.Random(seed)
    while many:
        one = random_draft(chosen, kinds, places, yarns=True)
        lines = one.text.split('\n')[:-2]
        other = with_random_plans(chosen, lines, one.ends, one.picks, places)
        if chosen.random() < 0.3:
            other = random_draft(chosen, kinds, places)
        by = chosen.choice(LOOKS)
        judges = Judge(one, other, by, most), Judge(other, one, by, most)
        if max(judges[0].many_rows() + judges[1].many_rows()) <= most:
            many -= 1
            yield one, other, by


def without(rows, at):
    return rows[:at] + rows[at + 1:]


def changed(paper, side, stand, worth):
    """The paper with another stand, or none, in the place of one."""
    sides = list(paper)
    sides[side] = sides[side][:stand] + worth + sides[side][stand + 1:]
    return tuple(sides)


def other_papers(paper, every):
    """The paper with one stand, one row or one pair less, one pair more, or a row at another place."""
    for side in (1, 2):
        places = sorted({first for _, rows in paper[side] for first, _ in rows})
        for at, (place, rows) in enumerate(paper[side]):
            yield changed(paper, side, at, ())
            for number, (first, pairs) in enumerate(rows):
                fewer = without(rows, number)
                yield changed(paper, side, at, ((place, fewer),))
                others = [(first, without(pairs, less)) for less in range(len(pairs))]
                others += [(first, tuple(sorted(set(pairs + (pair,))))) for pair in every]
                others += [(another, pairs) for another in places]
                for row in others:
                    yield changed(paper, side, at, ((place, tuple(sorted(set(fewer + (row,))))),))
                    yield changed(paper, side, at, ((place, tuple(sorted(set(rows + (row,))))),))


class TestCovers(unittest.TestCase):
    def test_the_examples(self):
        self.assertEqual([covers(TWILL, plain)[0], covers(plain, TWILL)[0], len(covers(plain, TWILL)[1])],
                         ['covers', 'not', 2])

    def test_against_small_cloths(self):
        sizes = {'covers': 0}
        for one, other, by in drafts_beside(1, 150):
            result = covers(one, other, by=by)
            if result[0] == 'covers':
                sizes['covers'] += 1
                for threads in range(2, 7):
                    self.assertEqual(missing(one, other, by, threads), {})
            else:
                cloth = result[1]
                self.assertEqual((len(result), cloth.draft), (2, other))
                many = len(cloth)
                sizes[many] = sizes.get(many, 0) + 1
                for threads in range(2, min(many, 8)):
                    self.assertEqual(missing(one, other, by, threads), {}, (one.text, other.text))
                if max(len(cloth.ends), len(cloth.picks)) < 8:
                    has = pictures(one, len(cloth.ends), len(cloth.picks), by)
                    self.assertNotIn(Told(other).picture(cloth.ends, cloth.picks, by), has)
        self.assertTrue(sizes['covers'] > 25 and {2, 3, 4, 5} <= set(sizes), sizes)

    def test_papers_hold(self):
        many = 0
        for one, other, by in drafts_beside(2, 200, 3):
            result = covers(one, other, by=by)
            self.assertEqual(covers(one, other, by=by), covers(Draft(one.text), Draft(other.text), by=by))
            if result[0] == 'covers':
                many += 1
                self.assertEqual(len(result), 3)
                for stands in result[1:]:
                    self.assertEqual(stands, tuple(sorted(set(stands))))
                self.assertTrue(Judge(one, other, by).holds(result), (one.text, other.text, by))
        self.assertGreater(many, 30)

    def test_long_ways_to_the_smallest_cloth(self):
        # With kinds all alike, just the lengths of rows count: a cloth is missing by its width or its height.
        plans = [
            (('( a 2 ) + | a', 'p p +'), ('( a 3 ) +', 'p 2 | p 3'), (3, 2)),
            (('( a 4 ) + | a 2', 'p 3'), ('( a 2 ) +', 'p 3 p *'), (2, 4)),
            (('( a 4 ) + | a 2', 'p 3 p *'), ('( a 2 ) +', 'p 3'), (6, 3)),
            (('( a 4 ) + | ( a 3 ) +', 'p'), ('a 4 a a *', 'p 2 p *'), (5, 2)),
            (('a', 'p p p +'), ('a', 'p 4 | p'), (1, 1)),
            (('a +', '( p 4 p ) + | p 2'), ('a a a a a +', '( p p p ) +'), (5, 3))]
        for told, others, size in plans:
            one, other = Draft(ONE_KIND.format(*told)), Draft(ONE_KIND.format(*others))
            for by in LOOKS:
                word, cloth = covers(one, other, by=by)
                self.assertEqual((word, len(cloth.ends), len(cloth.picks)), ('not',) + size)
        free = Draft(ONE_KIND.format('a +', 'p +'))
        for told in ('( a 3 ) + | a', 'a 4 a *', '( a a ) 3 | a'):
            other = Draft(ONE_KIND.format(told, '( p p ) + p'))
            self.assertEqual([covers(free, other)[0], covers(other, free)[0]], ['covers', 'not'])

    def test_each_way_of_looking(self):
        lines = 'pick p {}\nend a {} {}\nthreading a +\ntreadling p +'
        one, other = Draft(lines.format('x', 'x', '#')), Draft(lines.format('y', 'x', '#'))
        self.assertEqual([covers(one, other, by=by)[0] for by in LOOKS], ['covers', 'covers', 'not'])
        below = Draft(lines.format('x', 'x', '.'))
        self.assertEqual([covers(one, below, by=by)[0] for by in LOOKS], ['covers', 'not', 'covers'])
        self.assertEqual(covers(one, below), covers(one=one, other=below, by='face'))

    def test_refused_ways_of_looking(self):
        for value in VALUES + ['Face', ['face']]:
            self.assertIs(refused(BadBy, covers, plain, TWILL, by=value), value)
            self.assertIs(refused(BadBy, same, plain, TWILL, by=value), value)
            self.assertIs(refused(BadBy, shows_covers, plain, TWILL, value, by=value), value)
            self.assertIs(refused(BadBy, shows_covers, plain, TWILL, ('not',), by=value), value)
        for function, others in [(covers, ()), (same, ()), (shows_covers, (1,))]:
            with self.assertRaises(TypeError):
                function(plain, TWILL, *others, 'face')


class TestShowsCovers(unittest.TestCase):
    def test_what_covers_returns(self):
        for one, other, by in drafts_beside(3, 120, 3):
            result = covers(one, other, by=by)
            self.assertIs(shows_covers(one, other, result, by=by), True)
            self.assertIs(shows_covers(value=result, other=Draft(other.text), one=one, by=by), True)
            self.assertIs(shows_covers(one, other, list(result), by=by), False)
            self.assertIs(shows_covers(one, other, result + (1,), by=by), False)
            self.assertIs(shows_covers(one, other, result[:-1], by=by), False)

    def test_other_papers(self):
        verdicts = []
        for one, other, by in drafts_beside(4, 100):
            result = covers(one, other, by=by)
            judge = Judge(one, other, by)
            if result[0] == 'covers' and sum(len(rows) for side in result[1:] for _, rows in side) < 40:
                every = tuple(sorted(itertools.product(one.ends, other.ends)))
                for paper in other_papers(result, every):
                    verdict = judge.holds(paper)
                    self.assertIs(shows_covers(one, other, paper, by=by), verdict, (one.text, other.text, paper))
                    verdicts.append(verdict)
        self.assertTrue(verdicts.count(True) > 500 and verdicts.count(False) > 500, len(verdicts))

    def test_papers_in_another_sequence(self):
        chosen = random.Random(5)
        for one, other, by in drafts_beside(5, 100):
            result = covers(one, other, by=by)
            if result[0] == 'covers':
                word, ends, picks = result
                mixed = [tuple(chosen.sample(stands, len(stands))) for stands in (ends, picks)]
                self.assertTrue(shows_covers(one, other, (word, mixed[0], mixed[1]), by=by))
                self.assertTrue(shows_covers(one, other, (word, ends + ends[:1], picks + picks), by=by))
                self.assertTrue(shows_covers(one, other, (word, ends[::-1] + ends, picks), by=by))

    def test_stands_that_are_not_needed(self):
        # The identity is a paper, too; beside it the stands of covers are not needed, and the other way about.
        for text in ('( a | b ) +', 'a b | ( b a ) +', 'a ( b | a ) *'):
            one = plain.with_plans(text, plain.treadling.text)
            pairs = (('a', 'a'), ('b', 'b'))
            identity = ('covers', tuple((place, ((place, pairs),)) for place in range(len(one.threading))),
                        tuple((place, ((place, pairs),)) for place in range(len(one.treadling))))
            result = covers(one, one)
            judge = Judge(one, one)
            for ends in (identity[1], result[1], result[1] + identity[1], identity[1] + result[1]):
                for picks in (identity[2], result[2], identity[2] + result[2]):
                    self.assertTrue(judge.holds(('covers', ends, picks)))
                    self.assertIs(shows_covers(one, one, ('covers', ends, picks)), True)
            # Stands behind which others are missing, or that meet no row, make a paper wrong.
            for extra in [(0, ()), (0, ((1, pairs),)), (1, ((0, ()),))]:
                paper = ('covers', identity[1] + (extra,), identity[2])
                self.assertIs(shows_covers(one, one, paper), judge.holds(paper))
                paper = ('covers', identity[1], identity[2] + (extra,))
                self.assertIs(shows_covers(one, one, paper), judge.holds(paper))
            self.assertFalse(shows_covers(one, one, ('covers', identity[1] + ((0, ()),), identity[2])))

    def test_papers_of_another_form(self):
        one = plain.with_plans('a b | a b a b', '( p | q ) +')
        word, ends, picks = covers(one, one)
        self.assertTrue(shows_covers(one, one, (word, ends, picks)))
        place, rows = ends[0]
        first, pairs = rows[0]
        row = (first, pairs)
        stands = [
            [place, rows], (place,), (place, rows, rows), (place, list(rows)), (place, rows[0]), (str(place), rows),
            (len(one.threading), rows), (-1, rows), (None, rows), (place, None), (place, ((first, list(pairs)),)),
            (place, ([first, pairs],)), (place, ((first, pairs, pairs),)), (place, ((first,),)), (place, (first,)),
            (place, ((len(one.threading), pairs),)), (place, ((-1, pairs),)), (place, (('0', pairs),)),
            (place, (row, row)), (place, ((first, pairs + pairs),)), (place, ((first, (('a', 'c'),)),)),
            (place, ((first, (('p', 'p'),)),)), (place, ((first, ('aa',)),)), (place, ((first, (['a', 'a'],)),)),
            (place, ((first, (('a', 'a', 'a'),)),)), (place, ((first, (('a',),)),)), (place, ((first, ((1, True),)),)),
            (place, ((first, 'aa'),)), (place, ((first, {}),)), (place, {}), (place, 'aa'),
            (place, ((first, (('a', 'a'), ('b', []))),)), (place, (row, plain)), (place, (row, (first, plain))),
            plain, 'aa', None]
        for stand in stands:
            self.assertIs(shows_covers(one, one, (word, (stand,) + ends[1:], picks)), False, stand)
            # Also where the stand would not be needed.
            self.assertIs(shows_covers(one, one, (word, ends + (stand,), picks)), False, stand)
            self.assertIs(shows_covers(one, one, (word, ends, picks + (stand,))), False, stand)
        for other in [list(ends), None, (), {}, 'ends', 1, ends[0], (ends,)]:
            self.assertIs(shows_covers(one, one, (word, other, picks)), False)
            self.assertIs(shows_covers(one, one, (word, ends, other)), False)
        wrong = [
            (word,), (word, ends), (word, ends, picks, ()), [word, ends, picks], ('cover', ends, picks), 'covers',
            (ends, picks), (True, ends, picks), ((word, ends, picks),), (None,), ('Not', 1), 'not', (['not'], 1),
            (plain, ends, picks)]
        for value in VALUES + wrong:
            self.assertIs(shows_covers(one, one, value), False)

    def test_true_is_no_place(self):
        paper = covers(plain, plain)
        for wrong, place in [(True, 1), (False, 0)]:
            for side in (1, 2):
                seen = [at for at in range(len(paper[side])) if paper[side][at][0] == place]
                self.assertNotEqual(seen, [])
                rows = paper[side][seen[0]][1]
                self.assertFalse(shows_covers(plain, plain, changed(paper, side, seen[0], ((wrong, rows),))))
                told = tuple((wrong if first == place else first, pairs) for first, pairs in rows)
                stand = ((place, told),)
                self.assertEqual(stand[0], paper[side][seen[0]])
                refused_paper = changed(paper, side, seen[0], stand)
                self.assertIs(shows_covers(plain, plain, refused_paper), not any(first == place for first, _ in rows))

    def test_rows_and_sets_that_do_not_ascend(self):
        one = plain.with_plans('( a | b ) +', '( p | q ) +')
        word, ends, picks = covers(one, one)
        seen = set()
        for at, (place, rows) in enumerate(ends):
            if len(rows) > 1:
                seen.add('rows')
                for worth in (rows[::-1], rows + rows[-1:]):
                    self.assertFalse(shows_covers(one, one, changed((word, ends, picks), 1, at, ((place, worth),))))
            for number, (first, pairs) in enumerate(rows):
                if len(pairs) > 1:
                    seen.add('sets')
                    for worth in (pairs[::-1], pairs + pairs[-1:]):
                        mixed = rows[:number] + ((first, worth),) + rows[number + 1:]
                        self.assertFalse(shows_covers(one, one, changed((word, ends, picks), 1, at, ((place, mixed),))))
        self.assertEqual(seen, {'rows', 'sets'})

    def test_smallest_cloths(self):
        verdicts = []
        for one, other, by in drafts_beside(6, 250):
            result = covers(one, other, by=by)
            many = len(result[1]) if result[0] == 'not' else 4
            if many > 6:
                continue
            for threads in range(2, many + 2):
                lacking = missing(one, other, by, threads)
                for width in range(1, threads):
                    for picture, rows in pictures(other, width, threads - width, by).items():
                        verdict = result[0] == 'not' and threads == many and picture in lacking
                        value = ('not', Cloth(Draft(other.text), *rows))
                        self.assertIs(shows_covers(one, other, value, by=by), verdict)
                        verdicts.append(verdict)
        self.assertTrue(verdicts.count(True) > 100 and verdicts.count(False) > 100)

    def test_cloths_of_another_draft(self):
        cloth = covers(plain, TWILL)[1]
        self.assertTrue(shows_covers(plain, TWILL, ('not', cloth)))
        self.assertTrue(shows_covers(plain, TWILL, ('not', Cloth(TWILL, ('c',), ('q',)))))
        wider = TWILL.with_plans('( a | b | c ) + | a', TWILL.treadling.text)
        wrong = [
            Cloth(wider, cloth.ends, cloth.picks), Cloth(TWILL, ('c', 'c'), ('q',)), Cloth(plain, ('a', 'b'), ('p',)),
            (TWILL, cloth.ends, cloth.picks), None, TWILL, 'not', ('not', cloth)]
        for value in wrong:
            self.assertIs(shows_covers(plain, TWILL, ('not', value)), False)
        for value in [('not',), ('not', cloth, cloth), ['not', cloth], ('not', (cloth,)), ('covers', cloth), (cloth,)]:
            self.assertIs(shows_covers(plain, TWILL, value), False)
        self.assertIs(shows_covers(TWILL, plain, ('not', cloth)), False)
        self.assertIs(shows_covers(TWILL, plain, ('not', Cloth(plain, ('a', 'b'), ('p',)))), False)
        self.assertIs(shows_covers(TWILL, plain, ('not',)), False)


def crossed(lifts, threading, treadling):
    """A draft of four kinds of picks and four of ends, of which the face shows the lifts."""
    lines = [f'pick {name} x' for name in 'pqrs'] + [f'end {name} y {told}' for name, told in zip('abcd', lifts)]
    return Draft('\n'.join(lines + ['threading ' + threading, 'treadling ' + treadling]))


LIFTS = ('#...', '.#..', '..#.', '...#')
GOES = crossed(LIFTS, '( b | c a | b b * ) +', 'p'), crossed(LIFTS, 'b | b + a * d + c a', 'p')
GOES_NOT = crossed(LIFTS, '( d * a + c | d b c + ) +', 'p'), crossed(LIFTS, '( a a d a * ) +', 'p')
PICKS_GO = (crossed(('...#', '###.', '##..', '..#.'), 'a', '( s r + | p q ) +'),
            crossed(('#.#.', '.##.', '#.##', '#...'), 'a', '( r + | s + q ) +'))
PICKS_GO_NOT = (crossed(('##.#', '...#', '.###', '##.#'), 'a', '( p q + q | r q p ) +'),
                crossed(('..##', '.#.#', '#..#', '##..'), 'a', '( p s | q s + p * ) +'))


class TestTooMany(unittest.TestCase):
    def test_3000_rows_go(self):
        for (one, other), many in [(GOES, (3000, 1)), (PICKS_GO, (1, 3000))]:
            self.assertEqual(Judge(one, other).many_rows(), many)
            result = covers(one, other)
            self.assertTrue(shows_covers(one, other, result))

    def test_more_do_not(self):
        for (one, other), many in [(GOES_NOT, (3001, 1)), (PICKS_GO_NOT, (1, 3001))]:
            self.assertEqual(Judge(one, other).many_rows(), many)
            self.assertEqual(refused(TooMany, covers, one, other), 3000)
            self.assertEqual(refused(BadBy, covers, one, other, by='no'), 'no')

    def test_other_plans(self):
        answers = set()
        plans = [
            '( b | c a | b b * ) +', '( d * a + c | d b c + ) +', '( a a d a * ) +', '( a | b | c ) +', 'a b c d a']
        drafts = [crossed(LIFTS, text, 'p') for text in plans]
        for one, other in itertools.product(drafts, drafts):
            many = max(Judge(one, other).many_rows())
            if many > 3000:
                self.assertEqual(refused(TooMany, covers, one, other), 3000)
            else:
                covers(one, other)
            answers.add(min(many // 500, 6))
        self.assertTrue({0, 6} < answers, answers)

    def test_shows_covers_for_what_begins_with_not(self):
        for one, other in (GOES_NOT, PICKS_GO_NOT):
            cloth = Cloth(other, other.threading.shortest(), other.treadling.shortest())
            for others in [(), (cloth,), (1, 2), (None,), (('covers', (), ()),), ([],)]:
                value = ('not',) + others
                self.assertEqual(refused(TooMany, shows_covers, one, other, value), 3000)
                self.assertEqual(refused(BadBy, shows_covers, one, other, value, by='no'), 'no')
            for value in VALUES + [['not', cloth], ('covers', cloth), ('covers', (), ()), 'not', (('not',),)]:
                self.assertIs(shows_covers(one, other, value), False)
        for one, other in (GOES, PICKS_GO):
            self.assertIs(shows_covers(one, other, ('not', 1, 2)), False)

    def test_a_paper_that_holds_where_covers_gives_up(self):
        one = crossed(LIFTS, '( d * a + c | d b c + ) +', '( p q + q | r q p ) +')
        self.assertEqual(refused(TooMany, covers, one, one), 3000)
        pairs = tuple((name, name) for name in 'abcd')
        ends = tuple((place, ((place, pairs),)) for place in range(len(one.threading)))
        picks = tuple((place, ((place, pairs),)) for place in range(len(one.treadling)))
        self.assertTrue(Judge(one, one).holds(('covers', ends, picks)))
        self.assertIs(shows_covers(one, one, ('covers', ends, picks)), True)
        self.assertIs(shows_covers(one, one, ('covers', ends[1:], picks)), False)
        self.assertIs(shows_covers(one, one, ('covers', ends, picks[:-1])), False)

    def test_the_order_in_same(self):
        one, other = GOES_NOT
        # Whether one covers the other one is too many; the other way about there is a cloth, which is told first.
        self.assertEqual(covers(other, one)[0], 'not')
        self.assertEqual(same(one, other)[0], 'one')
        self.assertEqual(refused(TooMany, same, other, one), 3000)
        self.assertEqual(refused(BadBy, same, other, one, by=0), 0)
        # Here the other one covers it, so that both ways are asked for.
        narrow = crossed(LIFTS, 'b * b a + d', 'p')
        free = crossed(LIFTS, '( a | b | c | d ) +', 'p')
        self.assertEqual(covers(free, narrow)[0], 'covers')
        self.assertEqual(refused(TooMany, covers, narrow, free), 3000)
        self.assertEqual(refused(TooMany, same, narrow, free), 3000)
        self.assertEqual(refused(TooMany, same, free, narrow), 3000)


class TestSame(unittest.TestCase):
    def test_the_examples(self):
        written = plain.with_plans('a b | a b ( a b ) +', 'p | ( p q ) +')
        self.assertEqual([same(plain, written), same(plain, ~plain)[0]], [('same',), 'one'])

    def test_at_random(self):
        words = []
        for one, other, by in drafts_beside(8, 250, 2, 3):
            result = same(one, other, by=by)
            first, second = covers(other, one, by=by), covers(one, other, by=by)
            if result[0] == 'one':
                self.assertEqual((first[0], result[1].draft), ('not', one))
                self.assertTrue(shows_covers(other, one, ('not', result[1]), by=by))
            elif result[0] == 'other':
                self.assertEqual((first[0], second[0], result[1].draft), ('covers', 'not', other))
                self.assertTrue(shows_covers(one, other, ('not', result[1]), by=by))
            else:
                self.assertEqual((result, first[0], second[0]), (('same',), 'covers', 'covers'))
            self.assertEqual(same(one=one, other=other, by=by), result)
            words.append(result[0])
        self.assertTrue(all(words.count(word) > 10 for word in ('same', 'one', 'other')), words)

    def test_face_where_by_is_left_out(self):
        lines = 'pick p {}\nend a {} {}\nthreading a +\ntreadling p +'
        one, below = Draft(lines.format('x', 'x', '#')), Draft(lines.format('x', 'x', '.'))
        self.assertEqual([same(one, below), same(one, below, by='lifts')[0]], [('same',), 'one'])
        self.assertEqual(same(one, below, by='both'), ('same',))


def outcome(result):
    """What of a result is not left open."""
    return result[0], len(result[1]) if result[0] == 'not' else None


class TestGuarantees(unittest.TestCase):
    def test_turned_drafts(self):
        for one, other, by in drafts_beside(9, 120):
            self.assertEqual(outcome(covers(~one, ~other, by=by)), outcome(covers(one, other, by=by)))
            self.assertEqual(same(~one, ~other, by=by)[0], same(one, other, by=by)[0])

    def test_other_names_and_another_order_of_kinds(self):
        for one, other, by in drafts_beside(10, 80):
            told = outcome(covers(one, other, by=by))
            self.assertEqual(outcome(covers(other_names(one), other, by=by)), told)
            self.assertEqual(outcome(covers(one, other_names(other), by=by)), told)
            self.assertEqual(outcome(covers(other_order(one), other_order(other), by=by)), told)

    def test_plans_written_otherwise(self):
        for one, other, by in drafts_beside(11, 80):
            told = outcome(covers(one, other, by=by))
            self.assertEqual(outcome(covers(written_otherwise(one), other, by=by)), told)
            self.assertEqual(outcome(covers(one, written_otherwise(other), by=by)), told)

    def test_arguments_stay_as_they_are(self):
        for one, other, by in drafts_beside(13, 20):
            before = [dict(vars(draft)) for draft in (one, other)]
            result = covers(one, other, by=by)
            told = repr(result[1:]) if result[0] == 'covers' else dict(vars(result[1]))
            shows_covers(one, other, result, by=by)
            same(one, other, by=by)
            self.assertEqual([dict(vars(draft)) for draft in (one, other)], before)
            self.assertEqual(repr(result[1:]) if result[0] == 'covers' else dict(vars(result[1])), told)
            self.assertEqual(covers(one, other, by=by), result)

    def test_what_is_alike_is_not_missing(self):
        for one, other, by in drafts_beside(12, 60):
            result = covers(one, other, by=by)
            if result[0] == 'not' and len(result[1]) < 7:
                rows, across = Told(one).rows_by_length(6)
                cloth = result[1]
                for ends, picks in itertools.product(rows[len(cloth.ends)], across[len(cloth.picks)]):
                    self.assertFalse(alike(cloth, Cloth(one, ends, picks), by=by))
