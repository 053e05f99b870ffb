"""Section 14: a loom."""

import copy
import functools
import itertools
import random
import unittest

from treadplans.cloths import Cloth
from treadplans.drafts import Draft
from treadplans.errors import (
    BadBy, BadNumber, BadPick, BadPicks, BadRow, NothingToRedo, NothingToUndo, NotNow, NotWhole)
from treadplans.looms import Loom
from tests.oracle import rows
from tests.values import NO_INTEGERS, NO_STRINGS, PLAIN, VALUES, refused
from tests.weaving import LOOKS, Told, random_draft, written_otherwise

plain = Draft(PLAIN)
YARNED = Draft('\n'.join((
    'pick p white', 'pick q red', 'pick r white', 'end a blue #..', 'end b white .#.', 'end c red ...',
    'yarn c a', 'yarn r q', 'threading ( a | b | c ) +', 'treadling p q p | p q q + r')))
ATTRIBUTES = ['draft', 'ends', 'picks', 'can', 'is_whole', 'left', 'face', 'floating']


@functools.lru_cache(None)
def beginnings(text, most=8):
    """All beginnings of rows of a plan, the empty one, too, each with how many names are missing, at least."""
    found = {}
    for row in rows(text, most):
        for many in range(len(row) + 1 if row else 0):
            found[row[:many]] = min(len(row) - many, found.get(row[:many], most))
    return found


class Model:
    """What a loom must tell, by its deeds alone."""

    def __init__(self, draft, ends):
        self.told = Told(draft)
        self.ends = ends
        self.done = []
        self.undone = []

    @property
    def picks(self):
        return tuple(itertools.chain.from_iterable(self.done))

    def deed(self, picks):
        """Whether these picks can be woven; then they are."""
        if self.picks + picks not in beginnings(self.told.treadling):
            return False
        self.done.append(picks)
        self.undone = []
        return True

    def floating(self):
        picks = self.picks
        if not picks:
            return ()
        found = []
        for end in self.ends:
            sides = [self.told.is_above(end, pick) for pick in picks[::-1]]
            many = len(list(itertools.takewhile(lambda side: side == sides[0], sides)))
            found.append(('face' if sides[0] else 'back', many))
        return tuple(found)

    def tells(self):
        """All that the loom must tell."""
        known, picks = beginnings(self.told.treadling), self.picks
        return {
            'ends': self.ends, 'picks': picks, 'left': known[picks],
            'can': tuple(sorted(name for name in self.told.picks if picks + (name,) in known)),
            'is_whole': bool(picks) and known[picks] == 0, 'face': self.told.picture(self.ends, picks, 'face'),
            'floating': self.floating()}


def told_by(loom):
    return {name: getattr(loom, name) for name in ATTRIBUTES if name != 'draft'}


def undone_all(loom):
    """The picks behind each undo of a copy of a loom, until nothing is left to undo."""
    loom = loom.copy()
    found = [loom.picks]
    while len(found) < 1000:
        try:
            loom.undo()
        except NothingToUndo:
            return found
        found.append(loom.picks)
    raise AssertionError('there is always more to undo')


def redone_all(loom):
    loom = loom.copy()
    found = [loom.picks]
    while len(found) < 1000:
        try:
            loom.redo()
        except NothingToRedo:
            return found
        found.append(loom.picks)
    raise AssertionError('there is always more to redo')


def everything(loom):
    """All that can be seen of a loom."""
    return told_by(loom), undone_all(loom), redone_all(loom), loom.journal()


def looms(seed, many):
    """Looms of random drafts, each with its model."""
    chosen = random.Random(seed)
    while many:
        draft = random_draft(chosen, 3, 4, yarns=True)
        ends = sorted(row for row in rows(Told(draft).threading, 4) if row)
        if ends:
            many -= 1
            row = chosen.choice(ends)
            yield chosen, Loom(draft, row), Model(draft, row)


class Refusal(Exception):
    """An error that is none of the package."""


class TestLoom(unittest.TestCase):
    def test_nothing_woven(self):
        for _, loom, model in looms(1, 60):
            self.assertEqual(told_by(loom), model.tells())
            self.assertEqual((loom.picks, loom.is_whole, loom.face, loom.floating, len(loom)), ((), False, (), (), 0))
            self.assertIs(loom.draft, loom.draft)
            self.assertGreater(loom.left, 0)
            self.assertLessEqual(set(ATTRIBUTES), set(vars(loom)))
        loom = Loom(ends=('a', 'b'), draft=plain)
        self.assertIs(loom.draft, plain)
        self.assertEqual((loom.ends, loom.can, loom.left), (('a', 'b'), ('p',), 1))
        methods = ['weave', 'weave_all', 'cloth', 'finished', 'could', 'undo', 'redo', 'tried', 'copy', 'journal']
        special = ['__init__', '__len__', '__eq__', '__getitem__', '__iadd__']
        self.assertLessEqual(set(methods + special), set(vars(Loom)))

    def test_refused_rows(self):
        for value in VALUES + [('b', 'a'), ('a',), ['a', 'b'], ('p',), ('a', 'b', 'a'), ('a', 'b', True), ('c',)]:
            self.assertIs(refused(BadRow, Loom, plain, value), value)
            self.assertIs(refused(BadRow, Loom, draft=plain, ends=value), value)
        narrow = plain.with_plans('a a', 'p')
        for value in [('a',), ('b',), ('a', 'b'), ('a', 'a', 'a')]:
            self.assertIs(refused(BadRow, Loom, narrow, value), value)
        self.assertEqual(Loom(narrow, ('a', 'a')).ends, ('a', 'a'))


class TestWeave(unittest.TestCase):
    def test_the_colours_and_all_else(self):
        seen = set()
        for chosen, loom, model in looms(2, 150):
            for _ in range(5):
                if not loom.can:
                    break
                name = chosen.choice(loom.can)
                self.assertTrue(model.deed((name,)))
                if chosen.random() < 0.5:
                    shown = loom.weave(name)
                    self.assertEqual(shown, model.told.picture(model.ends, (name,), 'face')[0])
                else:
                    same = loom
                    loom += name
                    self.assertIs(loom, same)
                self.assertEqual(told_by(loom), model.tells())
                self.assertEqual(loom.face[-1], model.told.picture(model.ends, (name,), 'face')[0])
                seen.add((len(loom.picks), loom.is_whole, bool(loom.can)))
        self.assertGreater(len(seen), 12)
        self.assertEqual(Loom(plain, ('a', 'b')).weave(name='p'), ('blue', 'white'))

    def test_refused_picks(self):
        for value in VALUES + ['a', 'b', 'r', 'white', 'pick', ('p',), ['p'], 'P', b'p', '']:
            for woven in [(), ('p',), ('p', 'q')]:
                loom = Loom(plain, ('a', 'b'))
                loom.weave_all(woven)
                loom.weave_all(())
                loom.undo()
                before = everything(loom)
                self.assertIs(refused(BadPick, loom.weave, value), value)
                self.assertIs(refused(BadPick, loom.weave, name=value), value)
                self.assertIs(refused(BadPick, loom.__iadd__, value), value)
                self.assertEqual(everything(loom), before)

    def test_picks_that_cannot_be_woven_now(self):
        for chosen, loom, model in looms(3, 120):
            loom.weave_all(())
            loom.undo()
            model.undone.append(())
            for _ in range(4):
                before = everything(loom)
                for name in loom.draft.picks:
                    if name not in loom.can:
                        self.assertIs(refused(NotNow, loom.weave, name), name)
                        self.assertIs(refused(NotNow, loom.__iadd__, name), name)
                        self.assertEqual(everything(loom), before)
                if not loom.can:
                    break
                loom.weave(chosen.choice(loom.can))
        # A kind of picks that stands in no plan is one, too.
        loom = Loom(plain.with_plans('a', 'p +'), ('a',))
        self.assertEqual([refused(NotNow, loom.weave, 'q'), refused(BadPick, loom.weave, 'a')], ['q', 'a'])

    def test_several_places_of_one_name(self):
        told = [
            ('p q p | p q q +', ('p', 'q'), ('p', 'q'), 1), ('p | p p p | p q', ('p',), ('p', 'q'), 0),
            ('( p q ) + | p p q q', ('p',), ('p', 'q'), 1), ('p p q | p q', ('p', 'p'), ('q',), 1),
            ('( p | q p ) +', ('q', 'p'), ('p', 'q'), 0), ('p * q p | p', ('p', 'p'), ('p', 'q'), 2)]
        for text, picks, can, left in told:
            loom = Loom(plain.with_plans('a', text), ('a',))
            self.assertEqual(loom.weave_all(picks), len(picks))
            self.assertEqual((loom.can, loom.left, loom.is_whole), (can, left, left == 0))
        loom = Loom(plain.with_plans('a', 'p q p | p q q +'), ('a',))
        loom.weave_all(('p', 'q', 'p'))
        self.assertEqual(loom.can, ())
        for name in 'pq':
            self.assertEqual(refused(NotNow, loom.weave, name), name)
        loom.undo()
        loom.weave_all(('p', 'q', 'q'))
        self.assertEqual((loom.can, loom.is_whole), (('q',), True))
        self.assertEqual(refused(NotNow, loom.weave, 'p'), 'p')


class TestWeaveAll(unittest.TestCase):
    def test_one_deed(self):
        for chosen, loom, model in looms(4, 120):
            known = sorted(beginnings(model.told.treadling))
            row = chosen.choice([row for row in known if len(row) < 6])
            cut = chosen.randint(0, len(row))
            for picks in (row[:cut], row[cut:], ()):
                self.assertEqual(loom.weave_all(picks), len(picks))
                self.assertTrue(model.deed(picks))
                self.assertEqual(told_by(loom), model.tells())
            loom.undo()
            self.assertEqual(loom.picks, row)
            loom.undo()
            self.assertEqual(loom.picks, row[:cut])
            loom.undo()
            self.assertEqual((loom.picks, undone_all(loom)), ((), [()]))
        self.assertEqual(Loom(plain, ('a', 'b')).weave_all(picks=('p', 'q')), 2)

    def test_no_tuples(self):
        for value in VALUES + [['p'], 'p', ['p', 'q'], {'p': 1}, None, 'pq', [('p',)]]:
            if not isinstance(value, tuple):
                loom = Loom(plain, ('a', 'b'))
                loom.weave('p')
                before = everything(loom)
                self.assertIs(refused(BadPicks, loom.weave_all, value), value)
                self.assertIs(refused(BadPicks, loom.weave_all, picks=value), value)
                self.assertEqual(everything(loom), before)

    def test_the_first_that_cannot_be_woven(self):
        told = [
            (('p', 'p', 'x'), NotNow, 'p'), (('p', 'q', 'x', 'q'), BadPick, 'x'), (('q', 'x'), NotNow, 'q'),
            (('x', 'q'), BadPick, 'x'), (('p', ['q'], 'x'), BadPick, ['q']), (('p', 'q', 'p', 'a'), BadPick, 'a'),
            ((None,), BadPick, None), (('p', True), BadPick, True), (('p', ('q',)), BadPick, ('q',)),
            (('p', plain), BadPick, plain), (('p', 'q', 'q', 'q'), NotNow, 'q')]
        for picks, error, value in told:
            loom = Loom(plain, ('a', 'b'))
            loom.weave_all(('p', 'q'))
            loom.weave('p')
            loom.undo()
            before = everything(loom)
            self.assertEqual(refused(error, loom.weave_all, picks), value)
            self.assertEqual(everything(loom), before)
        for value in VALUES:
            if isinstance(value, tuple) and value:
                self.assertIs(refused(BadPick, Loom(plain, ('a', 'b')).weave_all, value), value[0])


class TestWhatIsWoven(unittest.TestCase):
    def test_cloth_and_finished(self):
        wholes = 0
        for chosen, loom, model in looms(5, 150):
            for _ in range(5):
                known = beginnings(model.told.treadling)
                rest = loom.finished()
                self.assertEqual((len(rest), known[loom.picks + rest]), (loom.left, 0))
                self.assertIsInstance(rest, tuple)
                self.assertEqual(loom.finished(), rest)
                if loom.is_whole:
                    wholes += 1
                    self.assertEqual(rest, ())
                    self.assertEqual(loom.cloth(), Cloth(loom.draft, loom.ends, loom.picks))
                    self.assertEqual(loom.cloth().face, loom.face)
                else:
                    self.assertEqual(refused(NotWhole, loom.cloth), loom.left)
                    other = loom.copy()
                    other.weave_all(rest)
                    self.assertEqual((other.is_whole, other.left, other.finished()), (True, 0, ()))
                    self.assertEqual(other.cloth(), Cloth(loom.draft, loom.ends, loom.picks + rest))
                if not loom.can:
                    break
                loom.weave(chosen.choice(loom.can))
        self.assertGreater(wholes, 100)

    def test_left_is_the_least(self):
        draft = plain.with_plans('a', 'p 4 q q | p q')
        loom = Loom(draft, ('a',))
        self.assertEqual([loom.left, loom.finished()], [2, ('p', 'q')])
        told = []
        for name in 'pppp':
            loom.weave(name)
            told.append((loom.left, loom.finished()))
        self.assertEqual(told, [(1, ('q',)), (4, ('p', 'p', 'q', 'q')), (3, ('p', 'q', 'q')), (2, ('q', 'q'))])
        self.assertEqual(refused(NotWhole, loom.cloth), 2)

    def test_numbers(self):
        loom = Loom(plain, ('a', 'b'))
        for value in VALUES + [len, 0, -1]:
            self.assertIs(refused(BadNumber, loom.__getitem__, value), value)
        loom.weave_all(('p', 'q', 'p'))
        self.assertEqual(([loom[number] for number in range(3)], len(loom)), (['p', 'q', 'p'], 3))
        for value in NO_INTEGERS + [-1, 3, 4, '0', (0,), True, False, 999999999, -3]:
            self.assertIs(refused(BadNumber, loom.__getitem__, value), value)
        with self.assertRaises(TypeError):
            list(loom)

    def test_floating(self):
        loom = Loom(YARNED, ('a', 'b', 'c', 'a'))
        told = []
        for name in ('p', 'q', 'q', 'q', 'r'):
            loom.weave(name)
            told.append(loom.floating)
        self.assertEqual(told, [
            (('face', 1), ('back', 1), ('back', 1), ('face', 1)), (('back', 1), ('face', 1), ('back', 2), ('back', 1)),
            (('back', 2), ('face', 2), ('back', 3), ('back', 2)), (('back', 3), ('face', 3), ('back', 4), ('back', 3)),
            (('back', 4), ('back', 1), ('back', 5), ('back', 4))])
        cloth = loom.cloth()
        for number, (side, many) in enumerate(loom.floating):
            first, last, seen = cloth.floats(('end', number))[-1]
            self.assertEqual((side, many, last), (seen, last - first + 1, 4))


class TestCould(unittest.TestCase):
    @staticmethod
    def is_so(loom, other, picks, by):
        """Whether the other draft has rows that look like the ends with these picks."""
        told, second = Told(loom.draft), Told(other)
        picture = told.picture(loom.ends, picks, by)
        ends = [row for row in rows(second.threading, len(loom.ends)) if row and len(row) == len(loom.ends)]
        known = [row for row in beginnings(second.treadling) if len(row) == len(picks)]
        return any(second.picture(row, across, by) == picture for row in ends for across in known)

    def test_against_all_rows(self):
        answers = {}
        for chosen, loom, model in looms(6, 200):
            others = [random_draft(chosen, 3, 4), loom.draft, written_otherwise(loom.draft), ~loom.draft]
            text = random_draft(chosen, 3, 4).treadling.text
            try:
                others.append(loom.draft.with_plans(loom.draft.threading.text, text))
            except ValueError:
                pass
            for _ in range(4):
                for by in LOOKS:
                    other = chosen.choice(others)
                    before = everything(loom)
                    is_so, picks = loom.could(other, by=by)
                    told = self.is_so(loom, other, loom.picks, by)
                    self.assertIs(is_so, told, (loom.journal(), other.text, by))
                    could = tuple(name for name in loom.can if self.is_so(loom, other, loom.picks + (name,), by))
                    self.assertEqual(picks, could, (loom.journal(), other.text, by))
                    self.assertEqual(everything(loom), before)
                    self.assertEqual(loom.could(by=by, other=other), (is_so, picks))
                    key = (is_so, bool(loom.picks), len(picks) if len(picks) < len(loom.can) else 'all')
                    answers[key] = answers.get(key, 0) + 1
                other = chosen.choice(others)
                self.assertEqual(loom.could(other), loom.could(other, by='face'))
                if not loom.can:
                    break
                loom.weave(chosen.choice(loom.can))
        self.assertLessEqual({(so, woven, 0) for so in (True, False) for woven in (True, False)}
                             | {(True, woven, 'all') for woven in (True, False)}, set(answers))

    def test_the_same_draft(self):
        for chosen, loom, _ in looms(7, 60):
            while loom.can and len(loom) < 6:
                for by in LOOKS:
                    self.assertEqual(loom.could(loom.draft, by=by), (True, loom.can))
                loom.weave(chosen.choice(loom.can))

    def test_nothing_woven(self):
        loom = Loom(plain, ('a', 'b'))
        self.assertEqual(loom.could(plain), (True, ('p',)))
        wide = plain.with_plans('a b a +', 'p')
        self.assertEqual(loom.could(wide), (False, ()))
        # There is a row of as many ends, but none that looks like the first pick.
        other = plain.with_plans('a a | b b', 'p q')
        self.assertEqual(loom.could(other), (True, ()))
        self.assertEqual(loom.could(plain.with_plans('b a', 'q')), (True, ('p',)))
        self.assertEqual(loom.could(plain.with_plans('b a', 'p')), (True, ()))

    def test_only_some_of_what_can_be_woven(self):
        free = plain.with_plans('( a | b ) +', '( p | q ) +')
        loom = Loom(free, ('a', 'b', 'a'))
        turned = plain.with_plans('b a b | b b b', 'p p q')
        self.assertEqual(loom.could(turned), (True, ('q',)))
        loom.weave('q')
        self.assertEqual(loom.could(turned), (True, ('q',)))
        loom.weave('q')
        self.assertEqual(loom.could(turned), (True, ('p',)))
        loom.weave('p')
        self.assertEqual(loom.could(turned), (True, ()))
        loom.weave('p')
        self.assertEqual(loom.could(turned), (False, ()))
        self.assertEqual(loom.could(free), (True, ('p', 'q')))

    def test_each_way_of_looking(self):
        lines = 'pick p {}\nend a {} {}\nthreading a +\ntreadling p +'
        one = Draft(lines.format('x', 'x', '#'))
        for told, answers in [(('y', 'x', '#'), [True, True, False]), (('x', 'x', '.'), [True, False, True]),
                              (('x', 'y', '#'), [False, True, False])]:
            loom = Loom(one, ('a', 'a'))
            other = Draft(lines.format(*told))
            self.assertEqual([loom.could(other, by=by) for by in LOOKS], [(True, ('p',) * so) for so in answers])
            loom.weave('p')
            self.assertEqual([loom.could(other, by=by) for by in LOOKS], [(so, ('p',) * so) for so in answers])

    def test_refused_ways_of_looking(self):
        loom = Loom(plain, ('a', 'b'))
        for value in VALUES + ['Face', ['face'], 'back']:
            self.assertIs(refused(BadBy, loom.could, plain, by=value), value)
        with self.assertRaises(TypeError):
            loom.could(plain, 'face')


class TestUndoAndRedo(unittest.TestCase):
    def test_nothing_to_undo_and_to_redo(self):
        loom = Loom(plain, ('a', 'b'))
        self.assertIsNone(refused(NothingToUndo, loom.undo))
        self.assertIsNone(refused(NothingToRedo, loom.redo))
        loom.weave('p')
        self.assertIsNone(refused(NothingToRedo, loom.redo))
        self.assertIsNone(loom.undo())
        self.assertIsNone(refused(NothingToUndo, loom.undo))
        self.assertIsNone(loom.redo())
        self.assertIsNone(refused(NothingToRedo, loom.redo))
        self.assertEqual(loom.picks, ('p',))

    def test_no_tuple_of_picks_is_a_deed_too(self):
        loom = Loom(plain, ('a', 'b'))
        loom.weave('p')
        loom.weave('q')
        loom.undo()
        loom.weave_all(())
        self.assertIsNone(refused(NothingToRedo, loom.redo))
        self.assertEqual((loom.picks, undone_all(loom)), (('p',), [('p',), ('p',), ()]))
        loom.undo()
        self.assertEqual((loom.picks, redone_all(loom)), (('p',), [('p',), ('p',)]))
        loom.undo()
        self.assertEqual(redone_all(loom), [(), ('p',), ('p',)])

    def test_a_refused_deed_is_none(self):
        loom = Loom(plain, ('a', 'b'))
        loom.weave_all(('p', 'q'))
        loom.weave('p')
        loom.undo()
        for error, call, value in [(NotNow, loom.weave, 'q'), (BadPick, loom.weave, 'x'),
                                   (BadPicks, loom.weave_all, ['p']),
                                   (NotNow, loom.weave_all, ('p', 'p')), (BadPick, loom.weave_all, ('p', 1))]:
            refused(error, call, value)
            self.assertEqual(redone_all(loom), [('p', 'q'), ('p', 'q', 'p')])
        loom.redo()
        self.assertEqual(loom.picks, ('p', 'q', 'p'))

    def test_behind_all_undos(self):
        for chosen, loom, model in looms(8, 80):
            first = told_by(loom), undone_all(loom)
            states = [told_by(loom)]
            for _ in range(4):
                if loom.can:
                    loom.weave_all((chosen.choice(loom.can),) if chosen.random() < 0.8 else ())
                    states.append(told_by(loom))
            for state in states[-2::-1]:
                loom.undo()
                self.assertEqual(told_by(loom), state)
            self.assertEqual((told_by(loom), undone_all(loom)), first)
            for state in states[1:]:
                loom.redo()
                self.assertEqual(told_by(loom), state)
            self.assertIsNone(refused(NothingToRedo, loom.redo))

    def play(self, chosen, loom, model, depth=0):
        """Some deeds on a loom, and on its model; all is compared behind each of them."""
        for _ in range(chosen.randint(1, 6)):
            what = chosen.choice(['weave', 'weave', 'all', 'undo', 'undo', 'redo', 'redo', 'try', 'wrong', 'copy'])
            # The model knows beginnings of a few picks alone.
            if what == 'weave' and loom.can and len(loom) < 4:
                name = chosen.choice(loom.can)
                loom.weave(name)
                model.deed((name,))
            elif what == 'all' and len(loom) < 3:
                picks = tuple(chosen.choice(loom.draft.picks) for _ in range(chosen.randint(0, 2)))
                if model.deed(picks):
                    self.assertEqual(loom.weave_all(picks), len(picks))
                else:
                    with self.assertRaises(NotNow):
                        loom.weave_all(picks)
            elif what == 'undo':
                if model.done:
                    model.undone.append(model.done.pop())
                    loom.undo()
                else:
                    self.assertIsNone(refused(NothingToUndo, loom.undo))
            elif what == 'redo':
                if model.undone:
                    model.done.append(model.undone.pop())
                    loom.redo()
                else:
                    self.assertIsNone(refused(NothingToRedo, loom.redo))
            elif what == 'try' and depth < 3:
                self.trial(chosen, loom, model, depth)
            elif what == 'copy':
                other = loom.copy()
                self.play(chosen, other, copy.deepcopy(model), 3)
            elif what == 'wrong':
                refused(BadPick, loom.weave, chosen.choice(NO_STRINGS))
            self.same(loom, model)

    def same(self, loom, model):
        """A loom tells what its model does, also of what can be undone and redone."""
        self.assertEqual(told_by(loom), model.tells())
        done, deeds = [model.picks], list(model.done)
        while deeds:
            deeds.pop()
            done.append(tuple(itertools.chain.from_iterable(deeds)))
        self.assertEqual(undone_all(loom), done)
        again, deeds = [model.picks], list(model.done)
        for deed in model.undone[::-1]:
            deeds.append(deed)
            again.append(tuple(itertools.chain.from_iterable(deeds)))
        self.assertEqual(redone_all(loom), again)

    def trial(self, chosen, loom, model, depth):
        """A trial with deeds in it, that is kept or not, and that returns or raises."""
        keep = chosen.choice([True, True, True, False, 1, 'True', None])
        raises = chosen.choice([None, None, None, Refusal, NotNow, KeyboardInterrupt])
        before = copy.deepcopy(model)
        answer = object()

        def look(given):
            self.assertIs(given, loom)
            self.play(chosen, loom, model, depth + 1)
            if raises:
                raise raises('no')
            return answer

        if raises:
            with self.assertRaises(raises):
                loom.tried(look, keep=keep)
        else:
            self.assertIs(loom.tried(look=look, keep=keep), answer)
        if raises or keep is not True:
            model.done, model.undone = before.done, before.undone

    def test_at_random(self):
        for chosen, loom, model in looms(9, 700):
            for _ in range(2):
                self.play(chosen, loom, model)


class TestTried(unittest.TestCase):
    def woven(self):
        loom = Loom(plain, ('a', 'b'))
        loom.weave_all(('p', 'q'))
        loom.weave('p')
        loom.weave('q')
        loom.undo()
        return loom

    def test_what_look_returns_and_is_called_with(self):
        loom = self.woven()
        before = everything(loom)
        for answer in VALUES + [loom]:
            found = []

            def look(given):
                found.append(given)
                given.undo()
                given.undo()
                given.weave('p')
                return answer

            self.assertIs(loom.tried(look), answer)
            self.assertIs(found[0], loom)
            self.assertEqual((len(found), everything(loom)), (1, before))
        self.assertEqual(loom.tried(look=lambda given: given.weave('q')), ('white', 'blue'))
        self.assertEqual(everything(loom), before)
        with self.assertRaises(TypeError):
            loom.tried(lambda given: None, True)

    def test_what_look_undid_and_did_again(self):
        for deeds in [['undo'], ['redo'], ['undo', 'undo'], ['redo', 'undo', 'undo', 'redo'], ['undo', 'redo', 'redo']]:
            loom = self.woven()
            before = everything(loom)
            self.assertIsNone(loom.tried(lambda given: [getattr(given, deed)() for deed in deeds] and None))
            self.assertEqual(everything(loom), before)
            other = self.woven()
            for deed in deeds:
                getattr(other, deed)()
            loom.tried(lambda given: [getattr(given, deed)() for deed in deeds], keep=True)
            self.assertEqual(everything(loom), everything(other))

    def test_only_true_keeps(self):
        for keep in VALUES + [1, 'True', (True,), [True], 2, {True: True}]:
            loom = self.woven()
            before = everything(loom)
            loom.tried(Loom.undo, keep=keep)
            if keep is True:
                self.assertEqual(loom.picks, ('p', 'q'))
            else:
                self.assertEqual(everything(loom), before)

    def test_errors_are_passed_on(self):
        for error in (Refusal, NotNow, ValueError, KeyError, StopIteration, KeyboardInterrupt, SystemExit,
                      GeneratorExit):
            for keep in (True, False):
                loom = self.woven()
                before = everything(loom)
                raised = error('why')

                def look(given):
                    given.redo()
                    given.weave('p')
                    raise raised

                with self.assertRaises(error) as caught:
                    loom.tried(look, keep=keep)
                self.assertIs(caught.exception, raised)
                self.assertEqual(everything(loom), before)
        loom = self.woven()
        self.assertEqual(refused(NotNow, loom.tried, lambda given: given.weave_all(('q', 'q')), keep=True), 'q')
        self.assertEqual(everything(loom), everything(self.woven()))

    def test_trials_in_one_another(self):
        for outer, inner in itertools.product((True, False), repeat=2):
            loom = self.woven()
            before = everything(loom)

            def look(given):
                given.redo()
                given.tried(lambda again: again.weave('p'), keep=inner)
                self.assertEqual(given.picks, ('p', 'q', 'p', 'q') + ('p',) * inner)
                return given.copy()

            kept = loom.tried(look, keep=outer)
            self.assertEqual(kept.picks, ('p', 'q', 'p', 'q') + ('p',) * inner)
            self.assertEqual(everything(loom), everything(kept) if outer else before)

    def test_a_copy_amid_a_trial_stays(self):
        loom = self.woven()
        before = everything(loom)
        found = []

        def look(given):
            given.undo()
            found.append(given.copy())
            given.weave('p')

        loom.tried(look)
        self.assertEqual(everything(loom), before)
        self.assertEqual((found[0].picks, redone_all(found[0])[1:]),
                         (('p', 'q'), [('p', 'q', 'p'), ('p', 'q', 'p', 'q')]))
        found[0].weave('p')
        self.assertEqual(everything(loom), before)


class TestCopiesAndEquality(unittest.TestCase):
    def test_a_copy_is_independent(self):
        for chosen, loom, model in looms(10, 60):
            loom.weave_all(loom.finished())
            loom.weave_all(())
            loom.undo()
            before = everything(loom)
            other = loom.copy()
            self.assertIsNot(other, loom)
            self.assertEqual((other, everything(other), other.draft), (loom, before, loom.draft))
            other.undo()
            if other.can:
                other.weave(other.can[0])
            self.assertEqual(everything(loom), before)
            third = loom.copy()
            loom.undo()
            self.assertEqual(everything(third), before)

    def test_equality(self):
        loom = Loom(plain, ('a', 'b'))
        loom.weave_all(('p', 'q'))
        other = Loom(Draft(PLAIN), ('a', 'b'))
        self.assertFalse(loom == other)
        other.weave('p')
        self.assertTrue(loom != other)
        other.weave('q')
        self.assertTrue(loom == other)
        self.assertFalse(loom != other)
        other.weave('p')
        other.undo()
        self.assertTrue(loom == other)
        wide = Loom(plain, ('a', 'b', 'a', 'b'))
        wide.weave_all(('p', 'q'))
        more = Loom(plain.with_plans('( a b ) +', '( p q ) + | p | q'), ('a', 'b'))
        more.weave_all(('p', 'q'))
        for value in VALUES + [wide, more, loom.cloth(), loom.picks, loom.draft, (plain, ('a', 'b'), ('p', 'q'))]:
            self.assertFalse(loom == value)
            self.assertFalse(value == loom)
            self.assertTrue(loom != value)
        self.assertTrue(Loom(plain, ('a', 'b')) == Loom(plain, ('a', 'b')))
        self.assertFalse(Loom(plain, ('a', 'b')) == Loom(plain, ('a', 'b', 'a', 'b')))


class TestLongLooms(unittest.TestCase):
    def test_long_rows(self):
        draft = plain.with_plans('( a b ) +', '( p | q p ) +')
        loom = Loom(draft, ('a', 'b') * 40)
        for _ in range(30):
            loom.weave('p')
        loom.weave_all(('q', 'p') * 40)
        self.assertEqual((len(loom), loom.is_whole, loom.floating[:2]), (110, True, (('face', 1), ('back', 1))))
        self.assertEqual(loom.could(draft), (True, ('p', 'q')))
        self.assertEqual(loom.cloth().face, loom.face)
        for _ in range(31):
            loom.undo()
        self.assertEqual(loom.picks, ())
