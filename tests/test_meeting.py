"""Section 8: in common."""

import itertools
import random
import unittest

from treadplans.cloths import alike
from treadplans.drafts import Draft
from treadplans.errors import BadBy, TooMany
from treadplans.fitting import blocks, fitting_ends, fitting_picks
from treadplans.meeting import common, greatest_sets, least_sets
from tests.values import PLAIN, VALUES, refused
from tests.weaving import LOOKS, OTHER_NAMES, Told, other_names, other_order, random_draft, written_otherwise

plain = Draft(PLAIN)


def reached(plan, second, sets_of):
    """For each two places all sets of two beginnings of rows, needed or not, and how many there are."""
    state = [(place, other, sets_of(plan[place], second[other], None))
             for place in plan.firsts for other in second.firsts]
    found = set(state)
    while state:
        place, other, known = state.pop()
        for after in plan.next(place):
            for beyond in second.next(other):
                new = (after, beyond, sets_of(plan[after], second[beyond], known))
                if new not in found:
                    found.add(new)
                    state.append(new)
    return found


def best(several, is_better):
    """Those of several sets than which no other one is better."""
    return {one for one in several if not any(is_better(other, one) for other in several)}


class Search:
    """The sets of two drafts, by a search that keeps all of them."""

    def __init__(self, one, other, by='face'):
        told, second = Told(one), Told(other)
        fits = {picks: frozenset(ends for ends in itertools.product(told.ends, second.ends)
                                 if told.crossing(ends[0], picks[0], by) == second.crossing(ends[1], picks[1], by))
                for picks in itertools.product(told.picks, second.picks)}
        self.ends = reached(one.threading, other.threading, lambda name, beside, known:
                            frozenset([(name, beside)]) | (known or frozenset()))
        self.picks = reached(one.treadling, other.treadling, lambda name, beside, known:
                             fits[name, beside] if known is None else fits[name, beside] & known)
        self.one = one
        self.other = other

    def least(self):
        whole = {known for place, other, known in self.ends
                 if place in self.one.threading.lasts and other in self.other.threading.lasts}
        return tuple(sorted(tuple(sorted(known)) for known in best(whole, frozenset.__lt__)))

    def greatest(self):
        whole = {known for place, other, known in self.picks
                 if place in self.one.treadling.lasts and other in self.other.treadling.lasts}
        return tuple(sorted(tuple(sorted(known)) for known in best(whole, frozenset.__gt__)))

    def many(self, found, is_better):
        """How many (place, place, set) there are, the best sets alone."""
        by_places = {}
        for place, other, known in found:
            by_places.setdefault((place, other), set()).add(known)
        return sum(len(best(several, is_better)) for several in by_places.values())

    def many_least(self):
        return self.many(self.ends, frozenset.__lt__)

    def many_greatest(self):
        return self.many(self.picks, frozenset.__gt__)


def exchanged(sets):
    return tuple(sorted(tuple(sorted((other, name) for name, other in pairs)) for pairs in sets))


def renamed(sets):
    """The sets with other names for the kinds of the first draft."""
    return tuple(sorted(tuple(sorted((OTHER_NAMES[name], other) for name, other in pairs)) for pairs in sets))


def random_pairs(seed, many, kinds=3):
    chosen = random.Random(seed)
    for _ in range(many):
        one = random_draft(chosen, kinds)
        yield one, random_draft(chosen, kinds), chosen.choice(LOOKS)


class TestSets(unittest.TestCase):
    def test_against_a_search_that_keeps_all(self):
        sizes = set()
        for one, other, by in random_pairs(1, 250):
            search = Search(one, other, by)
            told = least_sets(one, other)
            self.assertEqual(told, search.least(), (one.text, other.text))
            self.assertEqual(greatest_sets(one, other, by=by), search.greatest(), (one.text, other.text, by))
            sizes.add(min(len(told), 4))
        self.assertEqual(sizes, {0, 1, 2, 3, 4})

    def test_against_rows_of_one_length(self):
        for one, other, by in random_pairs(2, 60, 2):
            told, second = Told(one), Told(other)
            for sort, sets in [(0, least_sets(one, other)), (1, greatest_sets(one, other, by=by))]:
                rows, others = told.rows_by_length(6)[sort], second.rows_by_length(6)[sort]
                beside = {frozenset(zip(row, beyond)) for many in rows for row in rows[many] for beyond in others[many]}
                if sort == 0:
                    # Sets that only longer rows have are no smaller ones of these.
                    missed = [pairs for pairs in beside if not any(set(known) <= pairs for known in sets)]
                else:
                    fitting = [fitting_ends(one, other, tuple(sorted(pairs)), by=by) for pairs in beside]
                    missed = [pairs for pairs in fitting if not any(set(pairs) <= set(known) for known in sets)]
                self.assertEqual(missed, [], (one.text, other.text, by))

    def test_no_rows_of_one_length(self):
        two = plain.with_plans('( a b ) +', 'p')
        three = plain.with_plans('a | a ( a a ) +', 'p')
        self.assertEqual(least_sets(two, three), ())
        self.assertEqual(common(two, three), ('none', ()))
        self.assertEqual(greatest_sets(~two, ~three), ())
        self.assertEqual(common(~two, ~three), ('none', least_sets(~two, ~three)))
        self.assertNotEqual(least_sets(~two, ~three), ())

    def test_what_never_fits(self):
        one = Draft('pick p x\nend a x #\nend b x .\nthreading a b\ntreadling p')
        other = Draft('pick p y\nend a y #\nend b y .\nthreading b a\ntreadling p p | p')
        self.assertEqual(greatest_sets(one, other), ((),))
        self.assertEqual(greatest_sets(one, other, by='both'), ((),))
        self.assertEqual(greatest_sets(one, other, by='lifts'), ((('a', 'a'), ('b', 'b')),))
        self.assertEqual(least_sets(one, other), ((('a', 'b'), ('b', 'a')),))
        for by in LOOKS:
            self.assertEqual(common(one, other, by=by), ('none', ((('a', 'b'), ('b', 'a')),)))

    def test_greatest_sets_are_ends_of_blocks(self):
        for one, other, by in random_pairs(3, 120):
            ends = [block[0] for block in blocks(one, other, by=by)]
            for pairs in greatest_sets(one, other, by=by):
                self.assertIn(pairs, ends)

    def test_by_and_names_of_arguments(self):
        other = plain.with_plans('b +', 'q +')
        self.assertEqual(greatest_sets(plain, other), greatest_sets(one=plain, other=other, by='face'))
        self.assertEqual(least_sets(plain, other), least_sets(one=plain, other=other))
        self.assertEqual(common(plain, other), common(one=plain, other=other, by='face'))
        for function in (greatest_sets, common):
            for value in VALUES + ['Face', ['both']]:
                self.assertIs(refused(BadBy, function, plain, other, by=value), value)
            with self.assertRaises(TypeError):
                function(plain, other, 'face')
        with self.assertRaises(TypeError):
            least_sets(plain, other, by='face')


class TestCommon(unittest.TestCase):
    def check(self, one, other, by, search):
        result = common(one, other, by=by)
        meets = any(set(least) <= set(great) for least in search.least() for great in search.greatest())
        if result[0] == 'none':
            self.assertEqual(result, ('none', search.least()))
        else:
            self.assertEqual((result[0], len(result)), ('cloths', 3))
            self.assertEqual((result[1].draft, result[2].draft), (one, other))
            self.assertTrue(alike(result[1], result[2], by=by))
        self.assertEqual(result[0] == 'cloths', meets)
        return result

    def test_at_random(self):
        words = []
        for one, other, by in random_pairs(4, 250):
            result = self.check(one, other, by, Search(one, other, by))
            words.append(result[0])
            self.assertEqual(common(one, other, by=by), result)
            swapped = common(other, one, by=by)
            self.assertEqual(swapped[0], result[0])
            self.assertEqual(common(~one, ~other, by=by)[0], result[0])
            self.assertEqual(least_sets(other, one), exchanged(least_sets(one, other)))
            self.assertEqual(greatest_sets(other, one, by=by), exchanged(greatest_sets(one, other, by=by)))
            if result[0] == 'none':
                self.assertEqual(swapped[1], exchanged(result[1]))
                # What the document says of the sets: no two rows of picks fit all of one.
                for pairs in result[1]:
                    fitting = fitting_picks(one, other, pairs, by=by)
                    self.assertFalse(self.two_rows(one.treadling, other.treadling, fitting))
        self.assertTrue(words.count('cloths') > 30 and words.count('none') > 30, words)

    def two_rows(self, plan, second, fitting):
        """Whether two rows of one length have only these pairs beside one another."""
        found = reached(plan, second, lambda name, beside, known: known is not False and (name, beside) in fitting)
        return any(known and place in plan.lasts and other in second.lasts for place, other, known in found)

    def test_other_names_another_order_and_other_plans(self):
        for one, other, by in random_pairs(6, 120):
            told = self.answers(one, other, by)
            self.assertEqual((renamed(told[0]), renamed(told[1]), told[2]), self.answers(other_names(one), other, by))
            for rewritten in (other_order, written_otherwise):
                self.assertEqual(self.answers(rewritten(one), other, by), told)
                self.assertEqual(self.answers(one, rewritten(other), by), told)

    def answers(self, one, other, by):
        return least_sets(one, other), greatest_sets(one, other, by=by), common(one, other, by=by)[0]

    def test_against_small_cloths(self):
        for one, other, by in random_pairs(5, 60, 2):
            result = common(one, other, by=by)
            if result[0] == 'none':
                told, second = Told(one), Told(other)
                pictures = []
                for each in (told, second):
                    ends, picks = each.rows_by_length(4)
                    pictures.append({each.picture(row, across, by) for many in ends for row in ends[many]
                                     for beyond in picks for across in picks[beyond]})
                self.assertEqual(pictures[0] & pictures[1], set(), (one.text, other.text, by))


FREE_ENDS = '( a | b | c | d ) +'
FREE_PICKS = '( p | q | r | s ) +'


def crossed(lifts, threading, treadling):
    """A draft of four kinds of picks and four of ends, of which the face shows the lifts."""
    lines = [f'pick {name} x' for name in 'pqrs'] + [f'end {name} y {told}' for name, told in zip('abcd', lifts)]
    return Draft('\n'.join(lines + ['threading ' + threading, 'treadling ' + treadling]))


class TestTooMany(unittest.TestCase):
    def check(self, one, other):
        """How many sets there are: where there are more than 400, they are refused."""
        search = Search(one, other)
        many, several = search.many_least(), search.many_greatest()
        calls = [(least_sets, many > 400), (greatest_sets, several > 400), (common, many > 400 or several > 400)]
        for function, is_refused in calls:
            if is_refused:
                self.assertEqual(refused(TooMany, function, one, other), 400)
            else:
                function(one, other)
        return many, several

    def test_least_sets(self):
        plans = [
            (FREE_ENDS, 'a b c d', 340),
            (FREE_ENDS + ' | d +', 'd + a a a | b a c d', 400),
            (FREE_ENDS + ' a c +', 'b c + d + d b b', 401),
            (FREE_ENDS, 'a b c d a', 596)]
        lifts = ('#...', '.#..', '..#.', '...#')
        for threading, second, many in plans:
            one, other = crossed(lifts, threading, 'p'), crossed(lifts, second, 'p')
            self.assertEqual(self.check(one, other), (many, 1))
            self.assertEqual(self.check(other, one), (many, 1))

    def test_greatest_sets(self):
        drafts = [
            (('.##.', '..##', '##..', '#.#.'), ('###.', '..##', '.#..', '##.#'), 'r p q s r + r s p', 400),
            (('..##', '##.#', '#.#.', '.##.'), ('.###', '##..', '####', '##.#'), 's p + q r s q r r', 401)]
        for lifts, others, treadling, many in drafts:
            one, other = crossed(lifts, 'a', FREE_PICKS), crossed(others, 'a', treadling)
            self.assertEqual(self.check(one, other), (1, many))
            self.assertEqual(self.check(other, one), (1, many))

    def test_common(self):
        wide = crossed(('#...', '.#..', '..#.', '...#'), FREE_ENDS, 'p')
        narrow = wide.with_plans('a b c d a', 'p')
        # Just the least sets are too many, with cloths in common and without.
        for other in (narrow, narrow.with_plans('a b c d a', 'p p')):
            self.assertEqual(refused(TooMany, common, wide, other), 400)
            self.assertEqual(refused(BadBy, common, wide, other, by='no'), 'no')
            self.assertIsInstance(greatest_sets(wide, other), tuple)
        # Just the greatest sets are too many, also where no two rows of the threadings have one length.
        one = crossed(('..##', '##.#', '#.#.', '.##.'), 'a', FREE_PICKS)
        other = crossed(('.###', '##..', '####', '##.#'), 'a', 's p + q r s q r r')
        for threading in ('a', 'a a'):
            second = other.with_plans(threading, other.treadling.text)
            self.assertEqual(refused(TooMany, common, one, second), 400)
            self.assertEqual(refused(BadBy, common, one, second, by=True), True)
            self.assertEqual(refused(BadBy, greatest_sets, one, second, by=True), True)
        self.assertEqual(least_sets(one, other), ((('a', 'a'),),))

    def test_each_way_of_looking_has_its_own_greatest_sets(self):
        one = crossed(('..##', '##.#', '#.#.', '.##.'), 'a', FREE_PICKS)
        other = crossed(('.###', '##..', '####', '##.#'), 'a', 's p + q r s q r r')
        one = Draft(one.text.replace(' y ', ' x '))
        other = Draft(other.text.replace(' y ', ' x '))
        self.assertEqual(greatest_sets(one, other), (tuple(itertools.product('abcd', 'abcd')),))
        self.assertEqual(refused(TooMany, greatest_sets, one, other, by='lifts'), 400)
        self.assertEqual(refused(TooMany, common, one, other, by='lifts'), 400)
        self.assertEqual(common(one, other, by='both')[0], 'cloths')
