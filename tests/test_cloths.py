"""Section 6: cloths."""

import random
import unittest

from treadplans.cloths import Cloth, alike
from treadplans.drafts import Draft
from treadplans.errors import BadBy, BadRow, BadThread
from tests.threads import all_threads, come_to, lies_above, parts_of, runs
from tests.values import PLAIN, VALUES, refused
from tests.weaving import LOOKS, Told, random_cloth_rows, random_draft

plain = Draft(PLAIN)
YARNED = Draft('\n'.join((
    'pick p white', 'pick q red', 'pick r white', 'end a blue #..', 'end b white .#.', 'end c red ...',
    'yarn c a', 'yarn r q', 'threading ( a | b | c ) +', 'treadling ( p | q | r ) +')))


def random_cloths(seed, many, yarns=True):
    chosen = random.Random(seed)
    for _ in range(many):
        draft = random_draft(chosen, yarns=yarns)
        yield Cloth(draft, *random_cloth_rows(chosen, draft))


class TestCloth(unittest.TestCase):
    def test_the_example(self):
        cloth = Cloth(plain, ('a', 'b'), ('p', 'q', 'p', 'q'))
        self.assertEqual(
            [cloth.lifts, cloth.face[0], cloth.floats(('end', 0)), cloth.parts],
            [('#.', '.#', '#.', '.#'), ('blue', 'white'),
             ((0, 0, 'face'), (1, 1, 'back'), (2, 2, 'face'), (3, 3, 'back')), (((0, 1), (0, 1, 2, 3)),)])
        self.assertEqual(cloth.above, ())
        small = Cloth(plain, ('a', 'b'), ('p',))
        self.assertEqual([small.parts, small.above],
                         [(((), (0,)), ((0,), ()), ((1,), ())), ((0, 2), (1, 0), (1, 2))])

    def test_the_properties(self):
        cloth = Cloth(YARNED, ('a', 'b', 'c', 'a'), ('q', 'p'))
        self.assertIs(cloth.draft, YARNED)
        self.assertEqual((cloth.ends, cloth.picks, len(cloth)), (('a', 'b', 'c', 'a'), ('q', 'p'), 6))
        self.assertEqual(cloth.lifts, ('.#..', '#..#'))
        self.assertEqual(cloth.face, (('red', 'white', 'red', 'red'), ('blue', 'white', 'white', 'blue')))
        self.assertEqual(cloth.back, (('blue', 'red', 'red', 'blue'), ('white', 'white', 'red', 'white')))

    def test_cloths_at_random(self):
        for cloth in random_cloths(1, 150):
            told = Told(cloth.draft)
            both = told.picture(cloth.ends, cloth.picks, 'both')
            self.assertEqual(cloth.face, told.picture(cloth.ends, cloth.picks, 'face'))
            self.assertEqual(cloth.face, tuple(tuple(shown for shown, _ in row) for row in both))
            self.assertEqual(cloth.back, tuple(tuple(hidden for _, hidden in row) for row in both))
            lifts = told.picture(cloth.ends, cloth.picks, 'lifts')
            self.assertEqual(cloth.lifts, tuple(''.join('.#'[above] for above in row) for row in lifts))
            self.assertEqual(len(cloth), len(cloth.ends) + len(cloth.picks))

    def test_refused_rows(self):
        values = VALUES + [('b', 'a'), ['a', 'b'], ('p',), ('a', 'b', 'a'), ('a', 'b', True), (('a', 'b'),)]
        for value in values:
            for picks in [('p',), ('q',), value]:
                self.assertIs(refused(BadRow, Cloth, plain, value, picks), value)
        for value in values:
            if value != ('p',):
                self.assertIs(refused(BadRow, Cloth, plain, ('a', 'b'), value), value)
        for value in [('q',), ('p', 'q', 'p'), ('a', 'b'), 'p']:
            self.assertIs(refused(BadRow, Cloth, plain, ('a', 'b'), value), value)
        # Kinds that there are, and that stand in no plan.
        draft = plain.with_plans('a', 'q 2')
        self.assertEqual(refused(BadRow, Cloth, draft, ('b',), ('q', 'q')), ('b',))
        self.assertEqual(refused(BadRow, Cloth, draft, ('a',), ('p',)), ('p',))
        self.assertEqual(refused(BadRow, Cloth, draft=draft, ends=(), picks=()), ())

    def test_equality(self):
        cloth = Cloth(plain, ('a', 'b'), ('p', 'q'))
        self.assertEqual(cloth, Cloth(draft=Draft(PLAIN), ends=('a', 'b'), picks=('p', 'q')))
        self.assertTrue(cloth == Cloth(plain, ('a', 'b'), ('p', 'q')))
        free = plain.with_plans('( a | b ) +', '( p | q ) +')
        others = VALUES + [Cloth(plain, ('a', 'b', 'a', 'b'), ('p', 'q')), Cloth(plain, ('a', 'b'), ('p',)),
                           Cloth(free, ('a', 'b'), ('p', 'q')), (plain, ('a', 'b'), ('p', 'q')), ~cloth]
        for other in others:
            self.assertFalse(cloth == other)
            self.assertFalse(other == cloth)
            self.assertTrue(cloth != other)

    def test_a_cloth_has_its_attributes_of_its_own(self):
        cloth = Cloth(plain, ('a', 'b'), ('p',))
        self.assertLessEqual({'draft', 'ends', 'picks', 'lifts', 'face', 'back', 'parts', 'above'}, set(vars(cloth)))
        self.assertLessEqual({'__init__', '__len__', '__eq__', '__invert__', 'floats'}, set(vars(Cloth)))


class TestFloats(unittest.TestCase):
    def test_floats_at_random(self):
        longest = 0
        for cloth in random_cloths(2, 150):
            for thread in all_threads(cloth.ends, cloth.picks):
                floats = cloth.floats(thread)
                self.assertEqual(floats, runs(lies_above(Told(cloth.draft), cloth.ends, cloth.picks, thread)))
                longest = max([longest] + [last - first for first, last, _ in floats])
        self.assertGreater(longest, 3)

    def test_floats_of_both_sorts(self):
        cloth = Cloth(YARNED, ('a', 'a', 'b', 'a'), ('p', 'q'))
        self.assertEqual(cloth.floats(('end', 3)), ((0, 0, 'face'), (1, 1, 'back')))
        self.assertEqual(cloth.floats(('pick', 0)), ((0, 1, 'back'), (2, 2, 'face'), (3, 3, 'back')))
        self.assertEqual(cloth.floats(thread=('pick', 1)), ((0, 1, 'face'), (2, 2, 'back'), (3, 3, 'face')))

    def test_refused_threads(self):
        cloth = Cloth(plain, ('a', 'b'), ('p', 'q', 'p', 'q'))
        wrong = VALUES + [
            ['end', 0], ('end', True), ('end', False), ('end', -1), ('end', 2), ('pick', 4), ('pick', -1),
            ('pick', True), ('ends', 0), ('End', 0), ('', 0), (0, 'end'), ('end', 0, 0), ('end',), ('end', '0'),
            ('end', None), ('end', (0,)), (['end'], 0), (cloth, 0), ('end', cloth), (True, 0), ('a', 0), cloth]
        for value in wrong:
            self.assertIs(refused(BadThread, cloth.floats, value), value)
        for thread in all_threads(cloth.ends, cloth.picks):
            cloth.floats(thread)


class TestParts(unittest.TestCase):
    def test_parts_at_random(self):
        shapes = set()
        for yarns in (True, False):
            for cloth in random_cloths(3, 500, yarns):
                parts, above = parts_of(come_to(Told(cloth.draft), cloth.ends, cloth.picks))
                told = (cloth.draft.text, cloth.ends, cloth.picks)
                self.assertEqual((cloth.parts, cloth.above), (parts, above), told)
                self.assertEqual(cloth.parts, tuple(sorted(cloth.parts)))
                self.assertEqual(cloth.above, tuple(sorted(cloth.above)))
                shapes.add((yarns, min(len(parts), 4)))
        self.assertLessEqual({(yarns, many) for yarns in (True, False) for many in (1, 2, 4)}, shapes)

    def test_threads_of_one_yarn_are_one(self):
        # All picks lie over c, all others over some pick; by its yarn c lies over the pick p.
        self.assertEqual(Cloth(YARNED, ('c', 'a'), ('p',)).parts, (((0, 1), (0,)),))
        self.assertEqual(Cloth(YARNED, ('c', 'c'), ('p',)).parts, (((), (0,)), ((0, 1), ())))
        self.assertEqual(Cloth(YARNED, ('b', 'b'), ('p',)).parts, (((), (0,)), ((0,), ()), ((1,), ())))
        # The end b lies over q, r lies over b: with the yarn of q and r they are one part.
        self.assertEqual(Cloth(YARNED, ('b',), ('q', 'r')).parts, (((0,), (0, 1)),))
        self.assertEqual(Cloth(YARNED, ('b',), ('r', 'r')).parts, (((), (0, 1)), ((0,), ())))
        self.assertEqual(Cloth(YARNED, ('b',), ('q', 'q')).above, ((1, 0),))

    def test_above_tells_pairs_by_way_of_other_parts(self):
        draft = Draft('\n'.join((
            'pick p x', 'pick q x', 'end a x ##', 'end b x .#', 'threading ( a | b ) +', 'treadling ( p | q ) +')))
        cloth = Cloth(draft, ('b', 'a'), ('p', 'q'))
        # The end a lies over p, p over b, b over q; a lies over b by way of p alone.
        self.assertEqual(cloth.parts, (((), (0,)), ((), (1,)), ((0,), ()), ((1,), ())))
        self.assertEqual(cloth.above, ((0, 1), (0, 2), (2, 1), (3, 0), (3, 1), (3, 2)))


class TestAlike(unittest.TestCase):
    def test_alike_at_random(self):
        answers = {}
        cloths = list(random_cloths(4, 60))
        for cloth in cloths:
            for second in cloths:
                for by in LOOKS:
                    one = Told(cloth.draft).picture(cloth.ends, cloth.picks, by)
                    other = Told(second.draft).picture(second.ends, second.picks, by)
                    told = alike(cloth, second, by=by)
                    self.assertIs(told, one == other)
                    answers[by, told] = answers.get((by, told), 0) + (cloth is not second)
                self.assertIs(alike(cloth, second), alike(cloth=cloth, second=second, by='face'))
        self.assertTrue(all(answers[by, told] > 2 for by in LOOKS for told in (True, False)), answers)

    def test_each_way_of_looking(self):
        lines = ['pick p x', 'end a {} {}', 'threading a +', 'treadling p +']
        one, red, below = [Draft('\n'.join(lines).format(*words)) for words in [('x', '#'), ('y', '#'), ('x', '.')]]
        cloths = [Cloth(draft, ('a',), ('p',)) for draft in (one, red, below)]
        told = [[alike(cloths[0], second, by=by) for by in LOOKS] for second in cloths]
        self.assertEqual(told, [[True, True, True], [False, True, False], [True, False, True]])
        for ends, picks in [(('a', 'a'), ('p',)), (('a',), ('p', 'p')), (('a', 'a'), ('p', 'p'))]:
            for by in LOOKS:
                self.assertFalse(alike(cloths[0], Cloth(one, ends, picks), by=by))
                self.assertFalse(alike(Cloth(one, ends, picks), cloths[0], by=by))

    def test_refused_ways_of_looking(self):
        cloth = Cloth(plain, ('a', 'b'), ('p',))
        wide = Cloth(plain, ('a', 'b', 'a', 'b'), ('p',))
        for value in VALUES + ['Face', 'faces', 'lift', 'back', ['face'], ('face',), {'face': 1}, True]:
            self.assertIs(refused(BadBy, alike, cloth, cloth, by=value), value)
            self.assertIs(refused(BadBy, alike, cloth, wide, by=value), value)
        with self.assertRaises(TypeError):
            alike(cloth, cloth, 'face')


class TestTurned(unittest.TestCase):
    def test_turned_at_random(self):
        for cloth in random_cloths(5, 150):
            turned = ~cloth
            self.assertEqual(turned, Cloth(~cloth.draft, cloth.picks, cloth.ends))
            self.assertEqual(~turned, cloth)
            for sort, other in [('end', 'pick'), ('pick', 'end')]:
                for number in range(len(cloth.ends if sort == 'end' else cloth.picks)):
                    self.assertEqual(turned.floats((other, number)), cloth.floats((sort, number)))
            self.assertEqual(turned.face, tuple(zip(*cloth.face)))
            self.assertEqual(turned.back, tuple(zip(*cloth.back)))
            exchanged = tuple((picks, ends) for ends, picks in turned.parts)
            self.assertEqual(tuple(sorted(exchanged)), cloth.parts)
            above = sorted((cloth.parts.index(exchanged[one]), cloth.parts.index(exchanged[other]))
                           for one, other in turned.above)
            self.assertEqual(tuple(above), cloth.above)

    def test_alike_turned(self):
        cloths = list(random_cloths(6, 40))
        for cloth in cloths:
            for second in cloths:
                for by in LOOKS:
                    self.assertIs(alike(~cloth, ~second, by=by), alike(cloth, second, by=by))
