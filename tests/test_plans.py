"""Section 4: plans."""

import itertools
import random
import unittest

from treadplans.errors import BadNumber, BadPlace, BadPlan
from treadplans.plans import Plan
from tests import oracle
from tests.values import NO_INTEGERS, NO_STRINGS, VALUES, refused

GOOD = [
    'a', 'abcdefgh', 'a b', 'a a', 'a | b', 'a | a', '( a )', '( a b ) +', 'a +', 'a 2', 'a 3', 'a 4',
    'a * b', 'b a *', '( a * ) 2 b', '( a * b ) 2', '( a | b * ) c', 'a 4 b 4', '( a b ) 4', '( a 2 ) 4',
    '( ( a 2 ) 2 ) 2', 'a b c d e f g h', '( ( ( ( a ) ) ) )', '( ( ( ( a + ) 2 ) + b ) * ) c',
    '( a * ) * b', '( a * ) + b', '( a + ) + b *', 'a | b c | d', '( a ) ( b )', 'a * b * c',
    '( ( ( ( a ) ) ) ) ( ( ( ( b ) ) ) )', '( a | b ) 2 c 3', 'pick end', '( a ) 2 | ( b ) 2',
]

MISSPELLED = [
    '', ' ', 'a ', ' a', 'a  b', 'a\tb', 'a\nb', 'a\n', '\na', 'A', 'aB', 'a1', 'a-b', 'a_b', 'abcdefghi',
    '\u00e4', 'a\u00a0b', '`', '{', '1', '5', '0', '2', '+', '*', '|', '(', ')', '()', '( )', '( a', 'a )',
    ') a (', '( a ) )', '( ( a )', 'a (', '(a)', 'a+', 'a2', 'a|b', '| a', 'a |', 'a | | b', '( | a )',
    '( a | )', '2 a', '+ a', '* a', '( + a )', 'a | + b', 'a + +', 'a + *', 'a 2 2', 'a 2 +', 'a + 2',
    '( a ) + +', 'a 1', 'a 5', 'a 0', 'a ?', 'a 22', 'a +*', 'a ++', 'a -1', '( ) a', 'a ( ) b', '( ( ) )',
    'a . b', 'a , b', '#', 'a \u0662', 'a 2\n',
]

TOO_DEEP = [
    '( ( ( ( ( a ) ) ) ) )', 'a | ( ( ( ( ( b ) ) ) ) )', '( ( ( ( a ) ) ( ( ( b ) ) ) ) )',
    '( ' * 1000 + 'a' + ' )' * 1000,
]

TOO_MANY_PLACES = [
    'a b c d e f g h i', 'a a a a a a a a a', 'a 4 b 4 c', '( a b c ) 3', '( a 3 ) 3', '( ( a 2 ) 2 ) 3',
    '( ( ( ( a 4 ) 4 ) 4 ) 4 ) 4', 'a | b | c | d | e | f | g | h | i', '( a * b * c * ) 3 d',
    '( ( ( ( ' + 'a ' * 2400 + ') 4 ) 4 ) 4 ) 4', '( a b ) 4 c', '( ( a ) 2 b ) 3',
]

EMPTY_ROW = [
    'a *', 'a * b *', 'a * | b', 'b | a *', '( a * ) 2', '( a * ) +', '( a * ) *', '( a | b * )',
    '( a * b * ) 3', '( a ) *', '( a b ) *', '( a b ) * ( c | d * )', 'a | b | ( c * ) 4',
]


def walked(plan, most):
    """All rows of up to so many names, along the ways from a first place to a last one."""
    found = set()
    ways = [(place,) for place in plan.firsts]
    while ways:
        found |= {tuple(plan[place] for place in way) for way in ways if way[-1] in plan.lasts}
        ways = [way + (after,) for way in ways if len(way) < most for after in plan.next(way[-1])]
    return found


def random_plans(seed, many, places=8):
    """So many different random plans with few enough places."""
    texts = {}
    chosen = random.Random(seed)
    while len(texts) < many:
        text = oracle.made(chosen, chosen.randint(1, 5))
        if len(oracle.written_out(text)) <= places and () not in oracle.rows(text, 0):
            texts[text] = Plan(text)
    return list(texts.values())


class TestTexts(unittest.TestCase):
    def test_texts_of_plans(self):
        for text in GOOD:
            with self.subTest(text):
                self.assertEqual(Plan(text).text, text)
                self.assertEqual(Plan(text=text).text, text)

    def test_no_texts_of_plans(self):
        for text in MISSPELLED + TOO_DEEP + TOO_MANY_PLACES + EMPTY_ROW:
            with self.subTest(text[:40]):
                self.assertIs(refused(BadPlan, Plan, text), text)

    def test_no_strings(self):
        for value in NO_STRINGS:
            with self.subTest(value=value):
                self.assertIs(refused(BadPlan, Plan, value), value)

    def test_eight_places_go_and_nine_do_not(self):
        for places in range(1, 12):
            text = ' '.join(['a'] * places)
            if places <= 8:
                self.assertEqual(len(Plan(text)), places)
            else:
                self.assertEqual(refused(BadPlan, Plan, text), text)

    def test_random_texts(self):
        chosen = random.Random(1)
        refusals = 0
        for _ in range(3000):
            text = oracle.made(chosen, chosen.randint(1, 6))
            is_plan = len(oracle.written_out(text)) <= 8 and () not in oracle.rows(text, 0)
            with self.subTest(text):
                if is_plan:
                    self.assertEqual(Plan(text).text, text)
                else:
                    refusals += 1
                    self.assertEqual(refused(BadPlan, Plan, text), text)
        self.assertTrue(500 < refusals < 2500)

    def test_random_words(self):
        """Words in any order make a plan just if an expression of one grammar rule after another matches them."""
        chosen = random.Random(2)
        goes = 0
        for _ in range(20000):
            words = [chosen.choice(['a', 'b', '(', ')', '|', '+', '2', '']) for _ in range(chosen.randint(1, 6))]
            text = ' '.join(words)
            with self.subTest(text):
                if self.reduced(text) == 'P':
                    goes += 1
                    self.assertEqual(Plan(text).text, text)
                else:
                    self.assertEqual(refused(BadPlan, Plan, text), text)
        self.assertTrue(goes > 500)

    @staticmethod
    def reduced(text):
        """P if the words can be drawn together to one plan."""
        words = [{'a': 'X', 'b': 'X'}.get(word, word) for word in text.split(' ')]
        while True:
            joined = ' '.join(words)
            for old, new in [('X +', 'P'), ('X 2', 'P'), ('( X )', 'X'), ('( P )', 'X')]:
                if f' {old} ' in f' {joined} ':
                    joined = f' {joined} '.replace(f' {old} ', f' {new} ', 1)[1:-1]
                    break
            else:
                for old in ['X X', 'X P', 'P X', 'P P', 'X | X', 'X | P', 'P | X', 'P | P']:
                    if f' {old} ' in f' {joined} ':
                        joined = f' {joined} '.replace(f' {old} ', ' P ', 1)[1:-1]
                        break
                else:
                    return 'P' if joined in ('X', 'P') else joined
            words = joined.split(' ')


class TestPlaces(unittest.TestCase):
    def check(self, text, named, firsts, lasts, nexts):
        plan = Plan(text)
        self.assertEqual(len(plan), len(named))
        self.assertEqual([plan[place] for place in range(len(plan))], named)
        self.assertEqual(plan.names, tuple(sorted(set(named))))
        self.assertEqual((plan.firsts, plan.lasts), (firsts, lasts))
        self.assertEqual([plan.next(place) for place in range(len(plan))], nexts)

    def test_the_forms(self):
        self.check('b', ['b'], (0,), (0,), [()])
        self.check('b a', ['b', 'a'], (0,), (1,), [(1,), ()])
        self.check('b | a', ['b', 'a'], (0, 1), (0, 1), [(), ()])
        self.check('( a )', ['a'], (0,), (0,), [()])
        self.check('a +', ['a'], (0,), (0,), [(0,)])
        self.check('b a *', ['b', 'a'], (0,), (0, 1), [(1,), (1,)])
        self.check('a 2', ['a', 'a'], (0,), (1,), [(1,), ()])
        self.check('a 3', ['a'] * 3, (0,), (2,), [(1,), (2,), ()])
        self.check('a 4', ['a'] * 4, (0,), (3,), [(1,), (2,), (3,), ()])

    def test_marks_bind_closest_and_bars_least(self):
        self.check('a b +', ['a', 'b'], (0,), (1,), [(1,), (1,)])
        self.check('a b | c d', ['a', 'b', 'c', 'd'], (0, 2), (1, 3), [(1,), (), (3,), ()])
        self.check('a | b +', ['a', 'b'], (0, 1), (0, 1), [(), (1,)])
        self.check('a b 2', ['a', 'b', 'b'], (0,), (2,), [(1,), (2,), ()])

    def test_what_can_be_nothing(self):
        self.check('( a * ) 2 b', ['a', 'a', 'b'], (0, 1, 2), (2,), [(0, 1, 2), (1, 2), ()])
        self.check('a * b * c', ['a', 'b', 'c'], (0, 1, 2), (2,), [(0, 1, 2), (1, 2), ()])
        self.check('a b * c *', ['a', 'b', 'c'], (0,), (0, 1, 2), [(1, 2), (1, 2), (2,)])
        self.check('( a * | b ) c', ['a', 'b', 'c'], (0, 1, 2), (2,), [(0, 2), (2,), ()])
        self.check('( a * b * ) + c', ['a', 'b', 'c'], (0, 1, 2), (2,), [(0, 1, 2), (0, 1, 2), ()])

    def test_copies_within_copies(self):
        self.check(
            '( a b 2 ) 2', ['a', 'b', 'b', 'a', 'b', 'b'], (0,), (5,), [(1,), (2,), (3,), (4,), (5,), ()])
        self.check(
            '( ( a | b ) 2 ) 2', ['a', 'b'] * 4, (0, 1), (6, 7),
            [(2, 3), (2, 3), (4, 5), (4, 5), (6, 7), (6, 7), (), ()])
        self.check(
            '( a + b ) 2 c', ['a', 'b', 'a', 'b', 'c'], (0,), (4,), [(0, 1), (2,), (2, 3), (4,), ()])
        self.check('( ( a 2 ) + ) 2', ['a'] * 4, (0,), (3,), [(1,), (0, 2), (3,), (2,)])

    def test_copies_are_as_if_written_out(self):
        for short, long in [
            ('a 4', 'a a a a'), ('( a b 2 ) 2', 'a b b a b b'), ('( a * ) 2 b', '( a * ) ( a * ) b'),
            ('( a | b + ) 3', '( a | b + ) ( a | b + ) ( a | b + )'), ('( ( a 2 ) + ) 2', '( a a ) + ( a a ) +'),
            ('( ( a | b ) 2 c ) + d 2', '( ( a | b ) ( a | b ) c ) + d d'),
        ]:
            with self.subTest(short):
                one, other = Plan(short), Plan(long)
                self.assertEqual(len(one), len(other))
                for place in range(len(one)):
                    self.assertEqual((one[place], one.next(place)), (other[place], other.next(place)))
                self.assertEqual((one.firsts, one.lasts), (other.firsts, other.lasts))

    def test_random_plans(self):
        for plan in random_plans(3, 600):
            with self.subTest(plan.text):
                named = oracle.written_out(plan.text)
                self.assertEqual(tuple(plan[place] for place in range(len(plan))), named)
                self.assertEqual(plan.names, tuple(sorted(set(named))))
                self.assertEqual(walked(plan, 5), oracle.rows(plan.text, 5))
                for places in [plan.firsts, plan.lasts] + [plan.next(place) for place in range(len(plan))]:
                    self.assertIsInstance(places, tuple)
                    self.assertEqual(places, tuple(sorted(set(places))))

    def test_each_place_stands_on_a_way(self):
        for plan in random_plans(4, 300):
            reached = set(plan.firsts)
            leaving = set(plan.lasts)
            for _ in range(8):
                reached |= {after for place in reached for after in plan.next(place)}
                leaving |= {place for place in range(len(plan)) if set(plan.next(place)) & leaving}
            self.assertEqual((len(reached), len(leaving)), (len(plan), len(plan)), plan.text)

    def test_no_places(self):
        for text in ['a', 'a b | c', '( a b ) 4']:
            plan = Plan(text)
            for value in NO_INTEGERS + [-1, -len(plan), len(plan), len(plan) + 1, 999999999, '0', (0,), [0]]:
                with self.subTest(text, value=value):
                    self.assertIs(refused(BadPlace, plan.__getitem__, value), value)
                    self.assertIs(refused(BadPlace, plan.next, value), value)
                    self.assertIs(refused(BadPlace, plan.next, place=value), value)

    def test_places_by_name(self):
        self.assertEqual(Plan('a b').next(place=0), (1,))

    def test_a_plan_is_not_iterated(self):
        self.assertRaises(TypeError, iter, Plan('a b'))


class TestRows(unittest.TestCase):
    def test_rows(self):
        plan = Plan('( a b ) + | c 2')
        for row in [('a', 'b'), ('a', 'b', 'a', 'b'), ('c', 'c'), ('a', 'b') * 100]:
            self.assertIs(row in plan, True)
        for row in [('a',), ('b',), ('c',), ('b', 'a'), ('a', 'b', 'a'), ('c', 'c', 'c'), ('a', 'b', 'c', 'c')]:
            self.assertIs(row in plan, False)

    def test_any_value(self):
        for text in ['a', 'a b', '( a | b ) +']:
            plan = Plan(text)
            for value in VALUES:
                self.assertIs(value in plan, value == ('a',) and text != 'a b', value)
            for value in [['a'], ['a', 'b'], 'a', 'ab', 'a b', {'a': 'b'}, ('a', ['b']), ('a', None), ('a', 'b ')]:
                self.assertIs(value in plan, False, value)
            for inner in VALUES:
                self.assertIs(('a', inner) in plan, inner == 'a' and text == '( a | b ) +', inner)
                self.assertIs((inner,) in plan, inner == 'a' and text != 'a b', inner)
            self.assertIs((text,) in plan, text == 'a')
            self.assertIs(('A',) in plan, False)

    def test_no_plan_has_the_empty_row(self):
        for text in GOOD:
            self.assertNotIn((), Plan(text))

    def test_random_plans(self):
        for plan in random_plans(5, 400):
            expected = oracle.rows(plan.text, 4)
            for many in range(5):
                for row in itertools.product(plan.names + ('zz',), repeat=many):
                    self.assertEqual(row in plan, row in expected, (plan.text, row))

    def test_equal_by_text(self):
        self.assertTrue(Plan('a b') == Plan('a b'))
        self.assertFalse(Plan('a b') != Plan('a b'))
        for other in [Plan('a'), Plan('( a b )'), Plan('b a'), 'a b', ('a', 'b'), None, *VALUES]:
            self.assertFalse(Plan('a b') == other)
            self.assertTrue(Plan('a b') != other)
            self.assertFalse(other == Plan('a b'))


class TestOperators(unittest.TestCase):
    def test_behind(self):
        for one, other in [('a', 'b'), ('a | b', 'c +'), ('( a b ) 2', '( c | d ) * a')]:
            self.assertEqual((Plan(one) + Plan(other)).text, f'( {one} ) ( {other} )')

    def test_either(self):
        for one, other in [('a', 'b'), ('a | b', 'c +'), ('( a b ) 2', 'c * a')]:
            self.assertEqual((Plan(one) | Plan(other)).text, f'{one} | {other}')

    def test_times(self):
        for many in [2, 3, 4]:
            for text in ['a', 'a | b', 'a +']:
                self.assertEqual((Plan(text) * many).text, f'( {text} ) {many}')

    def test_what_they_give_are_plans_and_nothing_changes(self):
        one, other = Plan('a | b'), Plan('c')
        for plan in [one + other, one | other, one * 2, ~one]:
            self.assertIsInstance(plan, Plan)
        self.assertEqual((one.text, other.text), ('a | b', 'c'))
        self.assertIn(('a', 'c'), one + other)
        self.assertNotIn(('a',), one + other)
        self.assertIn(('c',), one | other)
        self.assertIn(('a', 'b'), one * 2)
        self.assertNotIn(('a',), one * 2)

    def test_backwards(self):
        for text, turned in [
            ('( a b ) + c | d 2', 'd 2 | c ( b a ) +'),
            ('a', 'a'), ('ab cd', 'cd ab'), ('a | b', 'b | a'), ('a + b', 'b a +'), ('a b *', 'b * a'),
            ('( a )', '( a )'), ('( ( a b ) 3 )', '( ( b a ) 3 )'), ('a ( b ( c | d ) * ) 2', '( ( d | c ) * b ) 2 a'),
            ('( ( ( ( a b ) + ) c ) * d ) 2', '( d ( c ( ( b a ) + ) ) * ) 2'),
        ]:
            with self.subTest(text):
                self.assertEqual((~Plan(text)).text, turned)

    def test_backwards_rows(self):
        for plan in random_plans(6, 300):
            turned = {row[::-1] for row in oracle.rows(plan.text, 4)}
            self.assertEqual(oracle.rows((~plan).text, 4), turned, plan.text)
            self.assertEqual(~~plan, plan)
            self.assertEqual(sorted((~plan).text.split(' ')), sorted(plan.text.split(' ')))

    def test_no_number_from_2_to_4(self):
        for plan in [Plan('a'), Plan('a b c d e'), Plan('( ( ( ( a ) ) ) )')]:
            for value in NO_INTEGERS + [0, 1, -1, 5, -2, 999999999, '2', '3', (2,), [3]]:
                with self.subTest(plan.text, value=value):
                    self.assertIs(refused(BadNumber, lambda: plan * value), value)

    def test_too_many_places(self):
        five, four = Plan('a b c d e'), Plan('a b 3')
        self.assertEqual(refused(BadPlan, lambda: five + four), '( a b c d e ) ( a b 3 )')
        self.assertEqual(refused(BadPlan, lambda: four | five), 'a b 3 | a b c d e')
        self.assertEqual(refused(BadPlan, lambda: five * 2), '( a b c d e ) 2')
        self.assertEqual(refused(BadPlan, lambda: four * 3), '( a b 3 ) 3')
        self.assertEqual(len(four + four), 8)
        self.assertEqual(len(four | four), 8)
        self.assertEqual(len(four * 2), 8)

    def test_too_deep_brackets(self):
        deep, flat, less = '( ( ( ( a ) ) ) )', 'b', '( ( ( a ) ) )'
        self.assertEqual(refused(BadPlan, lambda: Plan(deep) + Plan(flat)), f'( {deep} ) ( {flat} )')
        self.assertEqual(refused(BadPlan, lambda: Plan(flat) + Plan(deep)), f'( {flat} ) ( {deep} )')
        self.assertEqual(refused(BadPlan, lambda: Plan(deep) * 2), f'( {deep} ) 2')
        self.assertEqual((Plan(deep) | Plan(deep)).text, f'{deep} | {deep}')
        self.assertEqual((Plan(less) + Plan(less)).text, f'( {less} ) ( {less} )')
        self.assertEqual((Plan(less) * 4).text, f'( {less} ) 4')


class TestCounted(unittest.TestCase):
    def test_counted(self):
        self.assertEqual([Plan('( a | b ) +').counted(many) for many in range(13)],
                         [0] + [2 ** n for n in range(1, 13)])
        self.assertEqual([Plan('( a b ) +').counted(many) for many in range(5)], [0, 0, 1, 0, 1])
        self.assertEqual([Plan('a').counted(many) for many in range(3)], [0, 1, 0])
        self.assertEqual(Plan('a').counted(many=1), 1)
        self.assertEqual(Plan('( a | b a * ) +').counted(12), 4096)

    def test_many_ways_to_one_row(self):
        for text in ['a | a', 'a | ( a ) | a', '( a + ) +', '( a * ) 2 a', 'a + | ( a a ) + | a', '( a | a ) +']:
            self.assertEqual(Plan(text).counted(1), 1, text)
        for text in ['( a * ) 2 a', '( a + ) +', '( a | a ) +', 'a * a * a * a']:
            self.assertEqual([Plan(text).counted(many) for many in range(1, 13)], [1] * 12, text)
        self.assertEqual(Plan('( a | b | a b ) +').counted(12), 4096)

    def test_random_plans(self):
        for plan in random_plans(7, 400):
            expected = oracle.rows(plan.text, 5)
            for many in range(6):
                same_length = [row for row in expected if len(row) == many]
                self.assertEqual(plan.counted(many), len(same_length), (plan.text, many))

    def test_no_number_from_0_to_12(self):
        plan = Plan('a +')
        self.assertEqual((plan.counted(0), plan.counted(12)), (0, 1))
        for value in NO_INTEGERS + [-1, 13, 14, 999999999, -999999999, '3', (3,), [3]]:
            with self.subTest(value=value):
                self.assertIs(refused(BadNumber, plan.counted, value), value)
                self.assertIs(refused(BadNumber, plan.counted, many=value), value)


class TestUsedAndShortest(unittest.TestCase):
    def test_used(self):
        self.assertEqual(Plan('b a').used(), (('a', 'b'),))
        self.assertEqual(Plan('b | a').used(), (('a',), ('b',)))
        self.assertEqual(Plan('( a | b ) +').used(), (('a',), ('a', 'b'), ('b',)))
        self.assertEqual(Plan('( a b | c ) + d').used(), (('a', 'b', 'c', 'd'), ('a', 'b', 'd'), ('c', 'd')))
        self.assertEqual(Plan('a a | a').used(), (('a',),))
        self.assertEqual(
            Plan('a ( b | c ) *').used(), (('a',), ('a', 'b'), ('a', 'b', 'c'), ('a', 'c')))

    def test_used_by_all_subsets(self):
        names = 'abcdefgh'
        subsets = [c for many in range(1, 9) for c in itertools.combinations(names, many)]
        self.assertEqual(Plan(f'( {" | ".join(names)} ) +').used(), tuple(sorted(subsets)))

    def test_shortest(self):
        self.assertEqual(Plan('b | a').shortest(), ('a',))
        self.assertEqual(Plan('a b | c').shortest(), ('c',))
        self.assertEqual(Plan('b c | b a | c a').shortest(), ('b', 'a'))
        self.assertEqual(Plan('a b a | b a | b b').shortest(), ('b', 'a'))
        self.assertEqual(Plan('( a b ) + c | d 2').shortest(), ('d', 'd'))
        self.assertEqual(Plan('ab | b').shortest(), ('ab',))
        self.assertEqual(Plan('a ( b | c ) d | a b c').shortest(), ('a', 'b', 'c'))
        self.assertEqual(Plan('( a | b ) 4').shortest(), ('a',) * 4)
        self.assertEqual(Plan('( b | a ) ( d c | c ) ( e | d )').shortest(), ('a', 'c', 'd'))

    def test_random_plans(self):
        for plan in random_plans(8, 400, places=6):
            expected = oracle.rows(plan.text, 7)
            with self.subTest(plan.text):
                self.assertEqual(plan.used(), tuple(sorted({tuple(sorted(set(row))) for row in expected})))
                self.assertEqual(plan.shortest(), min(expected, key=lambda row: (len(row), row)))

    def test_shortest_is_a_row(self):
        for plan in random_plans(9, 400):
            self.assertIn(plan.shortest(), plan)
            shorter = sum(plan.counted(many) for many in range(len(plan.shortest())))
            self.assertEqual(shorter, 0)


class TestTheSameAgain(unittest.TestCase):
    def test_equal_calls_give_equal_results(self):
        plan = Plan('( a | b ) 2 | c +')
        for call in [plan.used, plan.shortest, lambda: plan.counted(2), lambda: plan.next(0), lambda: ~plan]:
            self.assertEqual(call(), call())
        self.assertEqual(plan, Plan('( a | b ) 2 | c +'))

    def test_results_are_tuples(self):
        plan = Plan('( a | b ) +')
        for value in [plan.names, plan.firsts, plan.lasts, plan.next(0), plan.used(), plan.used()[0], plan.shortest()]:
            self.assertIsInstance(value, tuple)
