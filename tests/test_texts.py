"""Section 15: texts of cloths and of pictures."""

import random
import unittest

from treadplans.cloths import Cloth
from treadplans.drafts import Draft
from treadplans.errors import BadPicture, BadText
from treadplans.texts import read_cloth, read_picture, show_cloth, show_picture
from tests.values import NO_STRINGS, PLAIN, VALUES, refused
from tests.weaving import random_cloth_rows, random_draft

plain = Draft(PLAIN)
# Signs that are no blank and no line feed, though they may look like one.
OTHER_BLANKS = ['\t', '\r', '\x0b', '\x0c', '\x1c', '\x85', '\xa0', '\u2003', '\u2028']


class TestCloths(unittest.TestCase):
    def test_the_two_lines(self):
        cloth = Cloth(plain, ('a', 'b'), ('p', 'q', 'p', 'q'))
        self.assertEqual(show_cloth(cloth), 'ends a b\npicks p q p q')
        self.assertEqual(show_cloth(cloth=Cloth(plain, ('a', 'b'), ('p',))), 'ends a b\npicks p')
        self.assertEqual(read_cloth(plain, 'ends a b\npicks p q p q'), cloth)
        self.assertEqual(read_cloth(text='ends a b\npicks p q p q', draft=plain), cloth)

    def test_what_is_written_is_read(self):
        chosen = random.Random(1)
        for _ in range(150):
            draft = random_draft(chosen, yarns=True)
            cloth = Cloth(draft, *random_cloth_rows(chosen, draft))
            text = show_cloth(cloth)
            self.assertEqual(text, 'ends ' + ' '.join(cloth.ends) + '\npicks ' + ' '.join(cloth.picks))
            again = read_cloth(Draft(draft.text), text)
            self.assertEqual(again, cloth)
            self.assertEqual(show_cloth(again), text)

    def test_refused_texts(self):
        good = 'ends a b\npicks p q'
        read_cloth(plain, good)
        told = {
            1: ['', '\n', 'ends', 'ends ', 'ends a', 'ends b a', 'ends a  b', 'ends a b ', ' ends a b', 'ends  a b',
                'Ends a b',
                'end a b', 'ends a b c', 'ends p q', 'picks p q', 'endsa b', 'a b', 'ends a,b', 'ends\na b', 'ends A b',
                'ends (a, b)', '\nends a b', 'ends ends a b', 'ends a b # x'],
            2: ['', 'picks', 'picks ', 'picks q', 'picks q p', 'picks p  q', 'picks p q ', ' picks p q', 'picks  p q',
                'Picks p',
                'pick p q', 'picks a b', 'ends a b', 'picks p p', 'p q', '\npicks p q', 'picks p,q', '  picks p q',
                'picksp q']}
        for line in told[1]:
            for second in ['', '\npicks p q', '\npicks', '\npicks p q\n', '\npicks p q\nmore']:
                self.assertEqual(refused(BadText, read_cloth, plain, line + second), 1, line)
        for line in told[2]:
            for third in ['', '\n', '\nmore', '\npicks p q']:
                self.assertEqual(refused(BadText, read_cloth, plain, 'ends a b\n' + line + third), 2, line)
        self.assertEqual(refused(BadText, read_cloth, plain, 'ends a b'), 2)
        self.assertEqual(refused(BadText, read_cloth, draft=plain, text='ends a b a b'), 2)
        for third in ['', '\n', '\n\n', 'picks p q', ' ', 'more\nand more', 'ends a b']:
            self.assertEqual(refused(BadText, read_cloth, plain, good + '\n' + third), 3)

    def test_other_blanks(self):
        for sign in OTHER_BLANKS:
            for text, number in [
                    (f'ends a{sign}b\npicks p', 1), (f'ends{sign}a b\npicks p', 1), (f'ends a b{sign}\npicks p', 1),
                    (f'{sign}ends a b\npicks p', 1), (f'ends a b{sign}picks p', 1), (f'ends a b\npicks{sign}p', 2),
                    (f'ends a b\npicks p{sign}q', 2), (f'ends a b\npicks p{sign}', 2), (f'ends a b\n{sign}picks p', 2),
                    (f'ends a b\npicks p\n{sign}', 3)]:
                self.assertEqual(refused(BadText, read_cloth, plain, text), number, repr(text))

    def test_no_strings(self):
        for value in NO_STRINGS + [b'ends a b\npicks p', ['ends a b', 'picks p']]:
            self.assertEqual(refused(BadText, read_cloth, plain, value), 0)

    def test_rows_of_just_this_draft(self):
        other = plain.with_plans('b a', 'q | q p')
        self.assertEqual(refused(BadText, read_cloth, other, 'ends a b\npicks p'), 1)
        self.assertEqual(refused(BadText, read_cloth, other, 'ends b a\npicks p'), 2)
        self.assertEqual(read_cloth(other, 'ends b a\npicks q p'), Cloth(other, ('b', 'a'), ('q', 'p')))


class TestPictures(unittest.TestCase):
    def test_lines(self):
        picture = (('blue', None, 'x'), (None, None, 'abcdefgh'))
        text = 'blue - x\n- - abcdefgh'
        self.assertEqual([show_picture(picture), show_picture(picture=picture)], [text, text])
        self.assertEqual([read_picture(text), read_picture(text=text)], [picture, picture])
        self.assertEqual([show_picture(((None,),)), read_picture('-')], ['-', ((None,),)])
        self.assertEqual(read_picture('none\nends'), (('none',), ('ends',)))

    def test_what_is_written_is_read(self):
        chosen = random.Random(2)
        sizes = set()
        for _ in range(300):
            width, height = chosen.randint(1, 7), chosen.randint(1, 7)
            picture = tuple(tuple(chosen.choice([None, 'x', 'yy', 'blue', 'abcdefgh']) for _ in range(width))
                            for _ in range(height))
            text = show_picture(picture)
            self.assertEqual(text, '\n'.join(' '.join(colour or '-' for colour in line) for line in picture))
            self.assertEqual(read_picture(text), picture)
            sizes.add((width, height))
        self.assertLessEqual({(1, 1), (7, 7), (1, 7), (7, 1)}, sizes)

    def test_refused_pictures(self):
        wrong = VALUES + [
            (), ((),), (('blue',), ()), (('blue',), ('blue', 'red')), [('blue',)], (['blue'],), (('blue',),) * 8,
            (('blue',) * 8,), (('-',),), (('Blue',),), (('',),), ((True,),), ((0,),), (('a b',),), ((('a',),),),
            'blue', ('ab',)]
        for value in wrong:
            self.assertIs(refused(BadPicture, show_picture, value), value)
            self.assertIs(refused(BadPicture, show_picture, picture=value), value)

    def test_refused_texts(self):
        wrong = [
            '', ' ', 'blue ', ' blue', 'blue  -', '- ', ' -', '--', '- --', 'Blue', 'blue1', 'abcdefghi', '_',
            'blue,red',
            'a b c d e f g h', '- - - - - - - -', 'bl\u00fce', '#', 'None', '-blue', 'blue -red']
        for line in wrong:
            for behind in ['', '\n', '\nblue', '\n' + line]:
                self.assertEqual(refused(BadText, read_picture, line + behind), 1, line)
        for many in range(1, 7):
            ahead = 'blue -\n' * many
            for line in wrong + ['blue', '-', 'blue - -', '- - -', 'a b c d e f g']:
                for behind in ['', '\n', '\nblue']:
                    self.assertEqual(refused(BadText, read_picture, ahead + line + behind), many + 1, line)
        # An eighth line is too many, whatever stands in it.
        for line in wrong + ['blue -', 'blue', '- -']:
            self.assertEqual(refused(BadText, read_picture, 'blue -\n' * 7 + line), 8)
            self.assertEqual(refused(BadText, read_picture, 'blue -\n' * 7 + line + '\n\n'), 8)
        self.assertEqual(refused(BadText, read_picture, '-\n' * 6 + 'blue red\n-'), 7)
        self.assertEqual(len(read_picture('\n'.join(['a b c d e f g'] * 7))), 7)
        self.assertEqual(refused(BadText, read_picture, '-\n'), 2)

    def test_other_blanks(self):
        for sign in OTHER_BLANKS:
            for text, number in [(f'blue{sign}red', 1), (f'blue -{sign}', 1), (f'{sign}blue', 1), (f'-{sign}-', 1),
                                 (f'blue -{sign}\n- -', 1), (f'- -\n-{sign}-', 2), (f'-\n{sign}', 2)]:
                self.assertEqual(refused(BadText, read_picture, text), number, repr(text))

    def test_no_strings(self):
        for value in NO_STRINGS + [b'blue', (('blue',),), ['blue']]:
            self.assertEqual(refused(BadText, read_picture, value), 0)
