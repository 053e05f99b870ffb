"""The whole document once more: its examples, its interface, its conventions and its guarantees."""

import doctest
import importlib
import inspect
import itertools
import random
import unittest

from treadplans import errors
from treadplans.cloths import Cloth, alike
from treadplans.covering import covers, same, shows_covers
from treadplans.desk import Desk
from treadplans.drafts import Draft
from treadplans.fitting import blocks, fitting_ends, fitting_picks
from treadplans.floats import calmest, longest, shows_longest
from treadplans.holding import apart, holds, mends, shows_holds
from treadplans.joining import joinable, joined, twins
from treadplans.journals import read_journal
from treadplans.looms import Loom
from treadplans.meeting import common, greatest_sets, least_sets
from treadplans.plans import Plan
from treadplans.reading import filled, read, readings
from treadplans.texts import read_cloth, read_picture, show_cloth, show_picture
from tests.papers import Judge
from tests.test_looms import everything
from tests.values import PLAIN, VALUES
from tests.weaving import LOOKS, Told, random_cloth_rows, random_draft, with_random_plans

EXAMPLES = r"""
>>> from treadplans.drafts import Draft
>>> text = 'pick p white\npick q white\nend a blue #.\nend b blue .#\nthreading ( a b ) +\ntreadling ( p q ) + | p'
>>> plain = Draft(text)
>>> [plain.threading.names, ('a', 'b', 'a', 'b') in plain.threading, plain.treadling.counted(2), plain.threading.used()]
[('a', 'b'), True, 1, (('a', 'b'),)]
>>> [plain.treadling.firsts, plain.treadling.next(1), plain.shown('a', 'q'), (~plain).text.split('\n')[2:4]]
[(0, 2), (0,), 'white', ['end p white .#', 'end q white #.']]
>>> from treadplans.cloths import Cloth, alike
>>> cloth = Cloth(plain, ('a', 'b'), ('p', 'q', 'p', 'q'))
>>> [cloth.lifts, cloth.face[0], cloth.floats(('end', 0)), cloth.parts]
[('#.', '.#', '#.', '.#'), ('blue', 'white'), ((0, 0, 'face'), (1, 1, 'back'), (2, 2, 'face'), (3, 3, 'back')),
 (((0, 1), (0, 1, 2, 3)),)]
>>> [Cloth(plain, ('a', 'b'), ('p',)).parts, Cloth(plain, ('a', 'b'), ('p',)).above]
[(((), (0,)), ((0,), ()), ((1,), ())), ((0, 2), (1, 0), (1, 2))]
>>> from treadplans.covering import covers, same
>>> twill = Draft(
...     'pick p white\npick q white\nend a blue #.\nend b blue .#\nend c blue ..\nthreading ( a | b | c ) +\ntreadling ( p | q ) +')
>>> [covers(twill, plain)[0], covers(plain, twill)[0], len(covers(plain, twill)[1])]
['covers', 'not', 2]
>>> [same(plain, plain.with_plans('a b | a b ( a b ) +', 'p | ( p q ) +')), same(plain, ~plain)[0]]
[('same',), 'one']
>>> from treadplans.floats import longest
>>> from treadplans.holding import apart, holds
>>> [longest(plain, 'end', 'face')[:2], longest(twill, 'end', 'back')[0], holds(plain)[0], apart(twill, 'c', 'c')[0]]
[('most', 1), 'endless', 'falls', 'cloth']
>>> from treadplans.desk import Desk
>>> from treadplans.looms import Loom
>>> desk = Desk(Loom(plain, ('a', 'b')))
>>> [desk.say(line) for line in ('can', 'weave p', 'weave q', 'floating', 'parts', 'undo', 'left')]
['p', 'blue white', 'white blue', 'back 1,face 1', '1', 'ok', '0']
"""

# Each function with its arguments; those behind a star are passed by name alone.
FUNCTIONS = {
    'cloths': {'alike': 'cloth second * by'},
    'fitting': {'fitting_picks': 'one other pairs * by', 'fitting_ends': 'one other pairs * by',
                'blocks': 'one other * by'},
    'meeting': {'common': 'one other * by', 'least_sets': 'one other', 'greatest_sets': 'one other * by'},
    'covering': {'covers': 'one other * by', 'shows_covers': 'one other value * by', 'same': 'one other * by'},
    'joining': {'joined': 'draft name second', 'joinable': 'draft * by', 'twins': 'draft * by'},
    'holding': {'holds': 'draft', 'shows_holds': 'draft value', 'apart': 'draft name second', 'mends': 'draft'},
    'floats': {'longest': 'draft sort side', 'shows_longest': 'draft sort side value', 'calmest': 'draft'},
    'reading': {'read': 'draft picture', 'readings': 'draft picture', 'filled': 'draft picture'},
    'texts': {'show_cloth': 'cloth', 'read_cloth': 'draft text', 'show_picture': 'picture', 'read_picture': 'text'},
    'journals': {'read_journal': 'text'},
}

CLASSES = {
    'plans': {'Plan': {'': 'text', 'next': 'place', 'counted': 'many', 'used': '', 'shortest': ''}},
    'drafts': {'Draft': {
        '': 'text', 'is_above': 'end pick', 'colour': 'name', 'shown': 'end pick', 'hidden': 'end pick',
        'with_plans': 'threading treadling', 'flipped': 'end pick'}},
    'cloths': {'Cloth': {'': 'draft ends picks', 'floats': 'thread'}},
    'looms': {'Loom': {
        '': 'draft ends', 'weave': 'name', 'weave_all': 'picks', 'cloth': '', 'finished': '', 'could': 'other * by',
        'undo': '',
        'redo': '', 'tried': 'look * keep', 'copy': '', 'journal': ''}},
    'desk': {'Desk': {'': 'loom', 'say': 'line'}},
}

ATTRIBUTES = {
    'Plan': 'text names firsts lasts', 'Draft': 'text ends picks yarns threading treadling',
    'Cloth': 'draft ends picks lifts face back parts above', 'Desk': 'loom',
    'Loom': 'draft ends picks can is_whole left face floating'}

ERRORS = (
    'BadPlan BadPlace BadNumber BadDraft BadEnd BadPick BadName BadRow BadThread BadBy BadPairs TooMany BadSort '
    'BadSide BadPicture NotNow BadPicks NotWhole NothingToUndo NothingToRedo BadText BadJournal BadLine').split()


def parameters(function):
    """The names of the parameters, with a star before those that are passed by name alone; and their default values."""
    told, names = inspect.signature(function).parameters.values(), []
    for parameter in told:
        if parameter.kind is parameter.KEYWORD_ONLY and '*' not in names:
            names.append('*')
        names.append(parameter.name)
    return ' '.join(names), {parameter.name: parameter.default for parameter in told
                             if parameter.default is not parameter.empty}


def drafts(seed, many, kinds=2, places=3):
    chosen = random.Random(seed)
    return [random_draft(chosen, kinds, places, yarns=True) for _ in range(many)]


def pairs_of_drafts(seed, many):
    """Pairs of drafts, often of the same kinds."""
    chosen = random.Random(seed)
    for one in drafts(seed, many):
        other = random_draft(chosen, 2, 3, yarns=True)
        if chosen.random() < 0.6:
            other = with_random_plans(chosen, one.text.split('\n')[:-2], one.ends, one.picks, 3)
        yield chosen, one, other


class TestTheDocument(unittest.TestCase):
    def test_the_examples(self):
        test = doctest.DocTestParser().get_doctest(EXAMPLES, {}, 'examples', None, 0)
        result = doctest.DocTestRunner(verbose=False, optionflags=doctest.NORMALIZE_WHITESPACE).run(test)
        self.assertEqual((result.attempted, result.failed), (20, 0))

    def test_functions(self):
        for module, functions in FUNCTIONS.items():
            found = importlib.import_module('treadplans.' + module)
            for name, told in functions.items():
                function = getattr(found, name)
                self.assertEqual(function.__module__, 'treadplans.' + module)
                self.assertEqual(parameters(function), (told, {'by': 'face'} if ' by' in told else {}), name)

    def test_classes(self):
        for module, classes in CLASSES.items():
            for name, methods in classes.items():
                found = getattr(importlib.import_module('treadplans.' + module), name)
                self.assertEqual(found.__module__, 'treadplans.' + module)
                for method, told in methods.items():
                    self.assertIn(method or '__init__', vars(found))
                    names, values = parameters(vars(found)[method or '__init__'])
                    self.assertEqual(names, ' '.join(['self'] + told.split()))
                    self.assertEqual(values, {'could': {'by': 'face'}, 'tried': {'keep': False}}.get(method, {}))

    def test_attributes(self):
        plain = Draft(PLAIN)
        loom = Loom(plain, ('a', 'b'))
        for value in (Plan('a'), plain, Cloth(plain, ('a', 'b'), ('p',)), loom, Desk(loom)):
            for name in ATTRIBUTES[type(value).__name__].split(' '):
                self.assertIn(name, vars(value))

    def test_errors(self):
        self.assertEqual(errors.WeaveError.__bases__, (ValueError,))
        for name in ERRORS:
            error = getattr(errors, name)
            self.assertEqual((error.__bases__, error.__module__), ((errors.WeaveError,), 'treadplans.errors'))
            for value in VALUES:
                self.assertIs(error(value).value, value)
        found = [name for name, value in vars(errors).items() if inspect.isclass(value)]
        self.assertEqual(sorted(found), sorted(ERRORS + ['WeaveError']))


class TestConventions(unittest.TestCase):
    @staticmethod
    def calls(chosen, one, other):
        """Calls of all functions: (function, arguments by their names)."""
        cloth = Cloth(one, *random_cloth_rows(chosen, one, 2))
        second = Cloth(other, *random_cloth_rows(chosen, other, 2))
        picture = tuple(tuple(chosen.choice([None, colour]) for colour in line[:7]) for line in cloth.face[:7])
        drafts_of = {'one': one, 'other': other}
        name = chosen.choice(one.ends)
        for by in LOOKS:
            yield alike, {'cloth': cloth, 'second': second, 'by': by}
            yield fitting_picks, {**drafts_of, 'pairs': ((one.ends[0], other.ends[0]),), 'by': by}
            yield fitting_ends, {**drafts_of, 'pairs': ((one.picks[0], other.picks[0]),), 'by': by}
            for function in (blocks, common, greatest_sets, covers, same):
                yield function, {**drafts_of, 'by': by}
            yield shows_covers, {**drafts_of, 'value': covers(one, other, by=by), 'by': by}
            yield joinable, {'draft': one, 'by': by}
            yield twins, {'draft': one, 'by': by}
        yield least_sets, drafts_of
        if len(one.ends) > 1:
            yield joined, {'draft': one, 'name': one.ends[0], 'second': one.ends[1]}
        for function in (holds, mends, calmest):
            yield function, {'draft': one}
        yield shows_holds, {'draft': one, 'value': holds(one)}
        yield apart, {'draft': one, 'name': name, 'second': chosen.choice(one.picks)}
        for sort, side in itertools.product(('end', 'pick'), ('face', 'back')):
            yield longest, {'draft': one, 'sort': sort, 'side': side}
            yield shows_longest, {'draft': one, 'sort': sort, 'side': side, 'value': longest(one, sort, side)}
        for function in (read, readings, filled):
            yield function, {'draft': one, 'picture': picture}
        yield show_cloth, {'cloth': cloth}
        yield read_cloth, {'draft': one, 'text': show_cloth(cloth)}
        yield show_picture, {'picture': picture}
        yield read_picture, {'text': show_picture(picture)}
        yield read_journal, {'text': Loom(one, cloth.ends).journal()}

    def test_names_in_any_sequence_and_equal_results(self):
        seen = set()
        for chosen, one, other in pairs_of_drafts(1, 40):
            for function, named in self.calls(chosen, one, other):
                before = {key: dict(vars(value)) if hasattr(value, '__dict__') else value for key,
                          value in named.items()}
                result = function(**named)
                mixed = chosen.sample(sorted(named), len(named))
                self.assertEqual(function(**{key: named[key] for key in mixed}), result)
                by = {'by': named['by']} if 'by' in named else {}
                self.assertEqual(function(*[named[key] for key in named if key != 'by'], **by), result)
                if by:
                    with self.assertRaises(TypeError):
                        function(*named.values())
                after = {key: dict(vars(value)) if hasattr(value, '__dict__') else value for key,
                         value in named.items()}
                self.assertEqual(after, before, function.__name__)
                seen.add(function.__name__)
        self.assertEqual(seen, {name for functions in FUNCTIONS.values() for name in functions})

    def test_methods_of_a_loom(self):
        for chosen, one, other in pairs_of_drafts(2, 60):
            loom = Loom(ends=one.threading.shortest(), draft=one)
            loom.weave_all(picks=loom.finished())
            loom.weave_all(())
            loom.undo()
            before = everything(loom)
            calls = [('cloth', {}), ('finished', {}), ('copy', {}), ('journal', {}), ('could', {'other': other})]
            calls += [('could', {'by': by, 'other': one}) for by in LOOKS]
            calls += [('tried', {'keep': False, 'look': Loom.journal}), ('tried', {'look': len})]
            for name, named in calls:
                self.assertEqual(getattr(loom, name)(**named), getattr(loom, name)(**named))
                self.assertEqual(everything(loom), before)
            with self.assertRaises(TypeError):
                loom.could(one, 'face')
            with self.assertRaises(TypeError):
                loom.tried(len, True)

    def test_classes_and_methods_by_names(self):
        plain = Draft(text=PLAIN)
        plan, cloth = Plan(text='( a b ) +'), Cloth(picks=('p',), ends=('a', 'b'), draft=plain)
        told = [
            (plan.next(place=1), plan.next(1)), (plan.counted(many=4), plan.counted(4)),
            (plain.is_above(pick='p', end='b'), plain.is_above('b', 'p')), (plain.colour(name='q'), plain.colour('q')),
            (plain.shown(pick='q', end='a'), plain.shown('a', 'q')),
            (plain.hidden(pick='q', end='a'), plain.hidden('a', 'q')),
            (plain.with_plans(treadling='q', threading='b'), plain.with_plans('b', 'q')),
            (plain.flipped(pick='q', end='b'), plain.flipped('b', 'q')), (cloth, Cloth(plain, ('a', 'b'), ('p',))),
            (cloth.floats(thread=('end', 1)), cloth.floats(('end', 1))), (plain, Draft(PLAIN)),
            (plan, Plan('( a b ) +'))]
        for one, other in told:
            self.assertEqual(one, other)
        loom, other = Loom(ends=('a', 'b'), draft=plain), Loom(plain, ('a', 'b'))
        self.assertEqual(loom.weave(name='p'), other.weave('p'))
        self.assertEqual(loom.weave_all(picks=('q', 'p')), other.weave_all(('q', 'p')))
        self.assertEqual(loom.could(by='both', other=plain), other.could(plain, by='both'))
        self.assertEqual(loom.tried(keep=True, look=Loom.finished), other.tried(Loom.finished, keep=True))
        self.assertEqual(Desk(loom=loom).say(line='picks'), Desk(other).say('picks'))
        self.assertEqual(everything(loom), everything(other))
        for method in (loom.undo, loom.redo):
            self.assertIsNone(method())

    def test_only_what_is_described_is_equal(self):
        plain = Draft(PLAIN)
        loom = Loom(plain, ('a', 'b'))
        objects = [Plan('a'), plain, Cloth(plain, ('a', 'b'), ('p',)), loom]
        for one, other in itertools.permutations(objects, 2):
            self.assertFalse(one == other)
        for one in objects:
            for value in ['a', PLAIN, 1, None, (), [], {}, True, (one,), [one]]:
                self.assertFalse(one == value)
                self.assertTrue(one != value)


class TestGuarantees(unittest.TestCase):
    def test_a_and_c_and_b(self):
        """All cloths, the smallest ones, and papers."""
        words = set()
        for chosen, one, other in pairs_of_drafts(3, 120):
            for by in LOOKS:
                result = covers(one, other, by=by)
                cloths = [random_cloth_rows(chosen, other, 2) for _ in range(4)]
                first = {rows: Told(one).picture(*rows, by) for size in [Told(one).rows_by_length(4)]
                         for rows in itertools.product(*[sum(found.values(), []) for found in size])}
                for ends, picks in cloths:
                    if max(len(ends), len(picks)) < 5:
                        has = Told(other).picture(ends, picks, by) in first.values()
                        if result[0] == 'covers' or len(ends) + len(picks) < len(result[1]):
                            self.assertTrue(has)
                        if common(one, other, by=by)[0] == 'none':
                            self.assertFalse(has)
                if result[0] == 'covers':
                    self.assertTrue(Judge(one, other, by).holds(result))
                else:
                    cloth = result[1]
                    self.assertEqual(cloth.draft, other)
                    if max(len(cloth.ends), len(cloth.picks)) < 5:
                        self.assertNotIn(Told(other).picture(cloth.ends, cloth.picks, by), first.values())
                words.add((result[0], common(one, other, by=by)[0]))
        self.assertEqual(len(words), 3)

    def test_d(self):
        """Turned drafts."""
        for chosen, one, other in pairs_of_drafts(4, 60):
            self.assertEqual(~~one, one)
            for by in LOOKS:
                self.assertEqual(covers(~one, ~other, by=by)[0], covers(one, other, by=by)[0])
                self.assertEqual(common(~one, ~other, by=by)[0], common(one, other, by=by)[0])
                self.assertEqual(same(~one, ~other, by=by)[0], same(one, other, by=by)[0])
                self.assertEqual((joinable(~one, by=by), twins(~one, by=by)), (joinable(one, by=by), twins(one, by=by)))
                turned = tuple(sorted((picks, ends) for ends, picks in blocks(one, other, by=by)))
                self.assertEqual(blocks(~one, ~other, by=by), turned)
            self.assertEqual((holds(~one)[0], calmest(~one)[0]), (holds(one)[0], calmest(one)[0]))
            self.assertEqual(mends(~one), tuple(sorted((pick, end) for end, pick in mends(one))))
            for side in ('face', 'back'):
                self.assertEqual(longest(~one, 'pick', side)[0], longest(one, 'end', side)[0])
                self.assertEqual(longest(~one, 'end', side)[0], longest(one, 'pick', side)[0])
            cloth = Cloth(one, *random_cloth_rows(chosen, one, 2))
            self.assertEqual((~cloth).face, tuple(zip(*cloth.face)))
            if max(len(cloth.ends), len(cloth.picks)) < 8:
                self.assertEqual(readings(~one, (~cloth).face), readings(one, cloth.face))

    def test_e(self):
        """Joining."""
        for draft in drafts(5, 80, 3, 4):
            for by in LOOKS:
                for name, second in joinable(draft, by=by):
                    self.assertEqual(same(joined(draft, name, second), draft, by=by), ('same',))

    def test_f(self):
        """Looms, and what is written as a text."""
        chosen = random.Random(6)
        for draft in drafts(7, 100, 3, 4):
            cloth = Cloth(draft, *random_cloth_rows(chosen, draft, 2))
            loom = Loom(draft, cloth.ends)
            first = everything(loom)
            cut = chosen.randint(0, len(cloth.picks))
            loom.weave_all(cloth.picks[:cut])
            loom.weave_all(cloth.picks[cut:])
            self.assertEqual(loom.cloth(), cloth)
            self.assertEqual(loom.could(draft)[0], True)
            before = everything(loom)
            loom.tried(lambda given: (given.undo(), given.undo(), given.weave(cloth.picks[0])))
            self.assertEqual(everything(loom), before)
            again = read_journal(loom.journal())
            self.assertEqual(everything(again), before)
            self.assertEqual(read_cloth(draft, show_cloth(cloth)), cloth)
            if max(len(cloth.ends), len(cloth.picks)) < 8:
                self.assertEqual(read_picture(show_picture(cloth.face)), cloth.face)
                self.assertEqual(Desk(loom).say('parts'), str(len(cloth.parts)))
            loom.undo()
            loom.undo()
            self.assertEqual((everything(loom)[0], everything(loom)[1]), first[:2])
