"""Section 16: a desk."""

import unittest

from treadplans.desk import Desk
from treadplans.drafts import Draft
from treadplans.errors import BadLine, BadPick, NothingToRedo, NothingToUndo, NotNow, NotWhole
from treadplans.looms import Loom
from tests.test_looms import everything, looms
from tests.values import NO_STRINGS, PLAIN, VALUES, refused

plain = Draft(PLAIN)


class TestDesk(unittest.TestCase):
    def test_the_example(self):
        desk = Desk(Loom(plain, ('a', 'b')))
        self.assertEqual(
            [desk.say(line) for line in ('can', 'weave p', 'weave q', 'floating', 'parts', 'undo', 'left')],
            ['p', 'blue white', 'white blue', 'back 1,face 1', '1', 'ok', '0'])

    def test_the_loom_is_this_very_one(self):
        loom = Loom(plain, ('a', 'b'))
        desk = Desk(loom=loom)
        self.assertIs(desk.loom, loom)
        self.assertEqual(desk.say(line='weave p'), 'blue white')
        self.assertEqual((loom.picks, desk.say('picks')), (('p',), '1'))
        loom.weave('q')
        self.assertEqual((desk.say('picks'), desk.say('left'), desk.loom is loom), ('2', '0', True))
        self.assertIn('loom', vars(desk))
        self.assertLessEqual({'__init__', 'say'}, set(vars(Desk)))

    def test_answers_at_random(self):
        seen = set()
        for chosen, loom, model in looms(1, 150):
            desk = Desk(loom)
            for _ in range(5):
                told = model.tells()
                self.assertEqual(desk.say('can'), ' '.join(told['can']) or 'none')
                self.assertEqual((desk.say('left'), desk.say('picks')), (str(told['left']), str(len(told['picks']))))
                floating = ','.join(f'{side} {many}' for side, many in told['floating'])
                self.assertEqual(desk.say('floating'), floating or 'none')
                before = everything(loom)
                if told['is_whole']:
                    self.assertEqual(desk.say('parts'), str(len(loom.cloth().parts)))
                    seen.add(desk.say('parts'))
                else:
                    self.assertEqual(refused(NotWhole, desk.say, 'parts'), told['left'])
                self.assertEqual(everything(loom), before)
                if not loom.can:
                    break
                name = chosen.choice(loom.can)
                model.deed((name,))
                shown = desk.say('weave ' + name)
                self.assertEqual(shown, ' '.join(model.told.picture(model.ends, (name,), 'face')[0]))
                if chosen.random() < 0.3:
                    self.assertEqual((desk.say('undo'), loom.picks, desk.say('redo')), ('ok', told['picks'], 'ok'))
                self.assertEqual(loom.picks, model.picks)
        self.assertGreater(len(seen), 3)

    def test_nothing_woven_and_nothing_that_can_be(self):
        desk = Desk(Loom(plain.with_plans('a b a', 'p q'), ('a', 'b', 'a')))
        self.assertEqual([desk.say(line) for line in ('floating', 'can', 'left', 'picks')], ['none', 'p', '2', '0'])
        desk.loom.weave_all(('p', 'q'))
        self.assertEqual([desk.say(line) for line in ('floating', 'can', 'left', 'picks')],
                         ['back 1,face 1,back 1', 'none', '0', '2'])
        free = Desk(Loom(plain.with_plans('a', '( q | p ) +'), ('a',)))
        self.assertEqual(free.say('can'), 'p q')

    def test_what_the_loom_raises(self):
        desk = Desk(Loom(plain, ('a', 'b')))
        self.assertIsNone(refused(NothingToUndo, desk.say, 'undo'))
        self.assertIsNone(refused(NothingToRedo, desk.say, 'redo'))
        self.assertEqual(refused(NotWhole, desk.say, 'parts'), 1)
        for name in ('x', 'a', 'b', 'weave', 'undo', 'abcdefgh', 'white', 'can'):
            self.assertEqual(refused(BadPick, desk.say, 'weave ' + name), name)
        self.assertEqual(refused(NotNow, desk.say, 'weave q'), 'q')
        desk.say('weave p')
        self.assertEqual(refused(NotNow, desk.say, 'weave p'), 'p')
        self.assertEqual(desk.say('undo'), 'ok')
        self.assertEqual(refused(BadPick, desk.say, 'weave pp'), 'pp')
        self.assertEqual((desk.say('redo'), desk.say('picks')), ('ok', '1'))

    def test_refused_lines(self):
        words = ['undo', 'redo', 'can', 'left', 'picks', 'floating', 'parts', 'weave p']
        wrong = ['', ' ', 'weave', 'weave ', 'weave  p', 'weave p q', 'weave P', 'weave p1', 'weave -',
                 'weave abcdefghi', 'p',
                 'weavep', 'Weave p', 'wea ve p', 'weave\tp', 'weave\xa0p', 'weave p\n', '\nweave p', 'weave p\r',
                 'weave (p)',
                 'none', 'ok', 'weave p,q', 'pick', 'journal', 'finished', 'weave p weave q', 'undo redo', 'help',
                 'weave \u00e4']
        for word in words:
            wrong += [word + ' ', ' ' + word, word + '\n', word + ' p', word.upper(), word + ' ' + word, word + '\t',
                      word[:-1] + ' ',
                      word + '.', word.replace(' ', '  ') + '  ', word + ' 1', '\t' + word, word + '\u2003']
        desk = Desk(Loom(plain, ('a', 'b')))
        for woven in [(), ('p',), ('p', 'q')]:
            desk.loom.weave_all(woven[-1:])
            before = everything(desk.loom)
            for value in NO_STRINGS + [value for value in VALUES if isinstance(value, str)] + wrong + [b'undo',
                                                                                                       ['undo'],
                                                                                                       ('can',)]:
                self.assertIs(refused(BadLine, desk.say, value), value)
                self.assertIs(refused(BadLine, desk.say, line=value), value)
            self.assertEqual(everything(desk.loom), before)
