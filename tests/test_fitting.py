"""Section 7: fitting."""

import itertools
import random
import unittest

from treadplans.drafts import Draft
from treadplans.errors import BadBy, BadPairs
from treadplans.fitting import blocks, fitting_ends, fitting_picks
from tests.values import PLAIN, VALUES, refused
from tests.weaving import LOOKS, OTHER_NAMES, Told, other_names, other_order, random_draft, written_otherwise

plain = Draft(PLAIN)
TWILL = Draft('\n'.join((
    'pick p white', 'pick q white', 'end a blue #.', 'end b blue .#', 'end c blue ..',
    'threading ( a | b | c ) +', 'treadling ( p | q ) +')))
OTHER = Draft('\n'.join((
    'pick q red', 'pick r white', 'end c white #.', 'end b blue ##', 'end a red ..', 'threading a b c', 'treadling q')))


class Pairs:
    """All pairs of kinds of two drafts, and which of them fit, from their texts alone."""

    def __init__(self, one, other, by):
        one, other = Told(one), Told(other)
        self.ends = sorted(itertools.product(one.ends, other.ends))
        self.picks = sorted(itertools.product(one.picks, other.picks))
        self.fits = {(ends, picks): one.crossing(ends[0], picks[0], by) == other.crossing(ends[1], picks[1], by)
                     for ends in self.ends for picks in self.picks}

    def picks_for(self, ends):
        return tuple(picks for picks in self.picks if all(self.fits[pair, picks] for pair in ends))

    def ends_for(self, picks):
        return tuple(ends for ends in self.ends if all(self.fits[ends, pair] for pair in picks))

    def blocks(self):
        subsets = itertools.chain.from_iterable(
            itertools.combinations(self.ends, many) for many in range(len(self.ends) + 1))
        found = {(self.ends_for(self.picks_for(ends)), self.picks_for(ends)) for ends in subsets}
        return tuple(sorted(found))


def some(chosen, pairs):
    """Some of these pairs, perhaps none or all, ascending."""
    many = chosen.choice([0, len(pairs), chosen.randint(0, len(pairs)), min(2, len(pairs))])
    return tuple(sorted(chosen.sample(pairs, many)))


def exchanged(pairs):
    return tuple(sorted((other, name) for name, other in pairs))


def renamed(pairs):
    """The pairs with other names for the kinds of the first draft."""
    return tuple(sorted((OTHER_NAMES[name], other) for name, other in pairs))


class TestFitting(unittest.TestCase):
    def test_what_fits(self):
        # The end c of the twill lies over no pick, and the end a of plain does not lie over q.
        self.assertEqual(fitting_picks(plain, TWILL, (('a', 'c'),)), (('q', 'p'), ('q', 'q')))
        self.assertEqual(fitting_picks(plain, TWILL, (('a', 'a'), ('b', 'b'))), (('p', 'p'), ('q', 'q')))
        self.assertEqual(fitting_ends(plain, TWILL, (('p', 'q'),), by='lifts'), (('a', 'b'), ('b', 'a'), ('b', 'c')))
        both = fitting_ends(plain, TWILL, (('p', 'q'), ('q', 'p')), by='both')
        self.assertEqual(both, (('a', 'b'), ('b', 'a')))

    def test_at_random(self):
        chosen = random.Random(1)
        sizes = set()
        for _ in range(150):
            one, other = random_draft(chosen), random_draft(chosen, colours='xyz')
            for by in LOOKS:
                pairs = Pairs(one, other, by)
                for _ in range(3):
                    ends, picks = some(chosen, pairs.ends), some(chosen, pairs.picks)
                    self.assertEqual(fitting_picks(one, other, ends, by=by), pairs.picks_for(ends))
                    self.assertEqual(fitting_ends(one, other, picks, by=by), pairs.ends_for(picks))
                    sizes.add((len(ends) == 0, len(ends) == len(pairs.ends), len(pairs.picks_for(ends)) == 0))
                    turned = fitting_picks(~one, ~other, picks, by=by)
                    self.assertEqual(turned, pairs.ends_for(picks))
                    swapped = fitting_ends(other, one, exchanged(picks), by=by)
                    self.assertEqual(swapped, exchanged(pairs.ends_for(picks)))
        self.assertGreater(len(sizes), 4)

    def test_no_pairs_and_all(self):
        self.assertEqual(fitting_picks(plain, OTHER, ()), (('p', 'q'), ('p', 'r'), ('q', 'q'), ('q', 'r')))
        self.assertEqual(len(fitting_ends(plain, OTHER, ())), 6)
        every = tuple(sorted(itertools.product('ab', 'abc')))
        self.assertEqual(fitting_picks(plain, OTHER, every), ())

    def test_face_where_by_is_left_out(self):
        for function in (fitting_picks, fitting_ends, blocks):
            pairs = {} if function is blocks else {'pairs': ()}
            self.assertEqual(function(plain, OTHER, **pairs), function(one=plain, other=OTHER, by='face', **pairs))
        ends = (('a', 'c'),)
        told = [fitting_picks(plain, OTHER, ends, by=by) for by in LOOKS]
        self.assertEqual(told[0], fitting_picks(plain, OTHER, pairs=ends))
        self.assertEqual(len(set(told)), 3)

    def test_refused_pairs(self):
        ends = [
            [('a', 'a')], (('a', 'a'), ('a', 'a')), (('b', 'a'), ('a', 'a')), (('a', 'b'), ('a', 'a')),
            (['a', 'a'],), ('aa',), (('a',),), (('a', 'a', 'a'),), (('a', 'a'), 1), (('a', 'a'), None),
            (('c', 'a'),), (('a', 'd'),), (('p', 'q'),), (('a', 'q'),), (('a', True),), ((1, 2),), ('a', 'a'),
            (('a', ['b']), ('b', {})), (('a', 'a'), ('b', [])), (plain, TWILL), ((plain, TWILL),), {('a', 'a'): 1}]
        for value in [value for value in VALUES if value != ()] + ends:
            self.assertIs(refused(BadPairs, fitting_picks, plain, OTHER, value), value)
            self.assertIs(refused(BadPairs, fitting_picks, plain, OTHER, value, by='no'), value)
        picks = [(('a', 'a'),), (('q', 'q'), ('p', 'q')), (('p', 'q'), ('p', 'q')), (('p', 'p'),), (('r', 'q'),)]
        for value in [value for value in VALUES if value != ()] + picks:
            self.assertIs(refused(BadPairs, fitting_ends, plain, OTHER, value, by=None), value)
            self.assertIs(refused(BadPairs, fitting_ends, plain, OTHER, value), value)

    def test_refused_ways_of_looking(self):
        for value in VALUES + ['Face', ['face']]:
            self.assertIs(refused(BadBy, fitting_picks, plain, OTHER, (), by=value), value)
            self.assertIs(refused(BadBy, fitting_ends, plain, OTHER, (), by=value), value)
            self.assertIs(refused(BadBy, blocks, plain, OTHER, by=value), value)
        for function, others in [(fitting_picks, ((),)), (fitting_ends, ((),)), (blocks, ())]:
            with self.assertRaises(TypeError):
                function(plain, OTHER, *others, 'face')


class TestBlocks(unittest.TestCase):
    def test_at_random(self):
        chosen = random.Random(2)
        seen = set()
        for _ in range(60):
            one, other = random_draft(chosen), random_draft(chosen)
            for by in LOOKS:
                found = blocks(one, other, by=by)
                self.assertEqual(found, Pairs(one, other, by).blocks())
                self.assertEqual(blocks(~one, ~other, by=by), tuple(sorted((picks, ends) for ends, picks in found)))
                swapped = tuple(sorted((exchanged(ends), exchanged(picks)) for ends, picks in found))
                self.assertEqual(blocks(other, one, by=by), swapped)
                seen.add((found[0][0] == (), any(picks == () for _, picks in found), len(found) > 4))
        self.assertGreater(len(seen), 4)

    def test_other_names_another_order_and_other_plans(self):
        chosen = random.Random(3)
        for _ in range(60):
            one, other = random_draft(chosen), random_draft(chosen)
            for by in LOOKS:
                found = blocks(one, other, by=by)
                named = tuple(sorted((renamed(ends), renamed(picks)) for ends, picks in found))
                self.assertEqual(blocks(other_names(one), other, by=by), named)
                self.assertEqual(blocks(other_order(one), other_order(other), by=by), found)
                self.assertEqual(blocks(written_otherwise(one), written_otherwise(other), by=by), found)
                picks = some(chosen, Pairs(one, other, by).picks)
                fitting = fitting_ends(one, other, picks, by=by)
                self.assertEqual(fitting_ends(other_names(one), other, renamed(picks), by=by), renamed(fitting))
                self.assertEqual(fitting_ends(other_order(one), other, picks, by=by), fitting)

    def test_kinds_that_stand_in_no_plan_count(self):
        small = plain.with_plans('a', 'p')
        for by in LOOKS:
            self.assertEqual(blocks(small, TWILL.with_plans('b', 'q'), by=by), blocks(plain, TWILL, by=by))
        self.assertIn(((('a', 'b'), ('b', 'a')), (('p', 'q'), ('q', 'p'))), blocks(small, small))

    def test_drafts_of_one_kind(self):
        lines = 'pick p x\nend a {} #\nthreading a\ntreadling p'
        one, other = Draft(lines.format('x')), Draft(lines.format('y'))
        pair = (('a', 'a'),), (('p', 'p'),)
        self.assertEqual(blocks(one, one), (pair,))
        self.assertEqual(blocks(one, other), (((), pair[1]), (pair[0], ())))
