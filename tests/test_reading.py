"""Section 13: read back."""

import itertools
import random
import unittest

from treadplans.cloths import Cloth
from treadplans.drafts import Draft
from treadplans.errors import BadPicture
from treadplans.reading import filled, read, readings
from tests.values import PLAIN, VALUES, refused
from tests.weaving import Told, other_names, other_order, random_draft, written_otherwise

plain = Draft(PLAIN)
FOUR = ['pick p x', 'pick q y', 'pick r z', 'pick s x', 'end a y #...', 'end b x .##.', 'end c z ..##', 'end d y #.#.']
COLOURS = 'xyz'


def four(threading, treadling):
    return Draft('\n'.join(FOUR + ['threading ' + threading, 'treadling ' + treadling]))


FREE = four('( a | b | c | d ) +', '( p | q | r | s ) +')


def drafts(seed, many, kinds=3, places=5):
    chosen = random.Random(seed)
    return [random_draft(chosen, kinds, places, colours='xxyz') for _ in range(many)]


def faces(draft, width, height):
    """All cloths of a size, as (ends, picks), each with its face."""
    told = Told(draft)
    ends, picks = told.rows_by_length(max(width, height))
    return {(row, across): told.picture(row, across, 'face') for row in ends[width] for across in picks[height]}


def shows(face, picture):
    """Whether a face shows all known colours of a picture."""
    return all(known in (None, colour) for row, line in zip(face, picture) for colour, known in zip(row, line))


def filled_by(found, picture):
    """The picture with what all these faces show in the place of None."""
    if not found:
        return None
    return tuple(tuple(colours[0] if len(set(colours)) == 1 else None for colours in zip(*rows))
                 for rows in zip(*found))


def random_picture(chosen, width, height, known, face=None):
    """A picture of which about so many hundredths are known, those of a face if there is one."""
    return tuple(tuple((face[line][at] if face else chosen.choice(COLOURS)) if chosen.randint(1, 100) <= known else None
                       for at in range(width)) for line in range(height))


def blank(width, height):
    return ((None,) * width,) * height


def turned(picture):
    return None if picture is None else tuple(zip(*picture))


class TestRead(unittest.TestCase):
    def check(self, draft, picture, found):
        """Checks what is told of a picture against all faces that show it."""
        self.assertEqual(readings(draft, picture), len(found), (draft.text, picture))
        self.assertEqual(filled(draft, picture), filled_by(list(found.values()), picture), (draft.text, picture))
        cloth = read(draft, picture)
        if not found:
            self.assertIsNone(cloth)
            return
        self.assertEqual(cloth.draft, draft)
        self.assertIn((cloth.ends, cloth.picks), found)
        self.assertEqual(cloth, Cloth(draft, cloth.ends, cloth.picks))

    def test_against_all_cloths_of_the_size(self):
        chosen = random.Random(1)
        sizes = set()
        for draft in drafts(2, 250):
            for _ in range(3):
                width, height = chosen.randint(1, 5), chosen.randint(1, 5)
                cloths = faces(draft, width, height)
                some = chosen.choice(sorted(cloths)) if cloths and chosen.random() < 0.8 else None
                picture = random_picture(chosen, width, height, chosen.choice([0, 10, 40, 70, 100]), cloths.get(some))
                found = {rows: face for rows, face in cloths.items() if shows(face, picture)}
                self.check(draft, picture, found)
                sizes.add((min(len(found), 5), filled(draft, picture) == picture))
        self.assertLessEqual({(many, same) for many in range(1, 6) for same in (True, False)} | {(0, False)}, sizes)

    def test_widest_and_highest(self):
        chosen = random.Random(3)
        for draft in drafts(4, 60, 2, 4):
            for width, height in [(7, 1), (1, 7), (7, 2), (2, 7), (1, 1), (6, 3)]:
                cloths = faces(draft, width, height)
                some = chosen.choice(sorted(cloths)) if cloths else None
                picture = random_picture(chosen, width, height, chosen.choice([0, 20, 60]), cloths.get(some))
                self.check(draft, picture, {rows: face for rows, face in cloths.items() if shows(face, picture)})

    def test_the_whole_face(self):
        chosen = random.Random(5)
        for draft in drafts(6, 60):
            for width, height in [(2, 3), (4, 2)]:
                for rows, face in list(faces(draft, width, height).items())[:3]:
                    told = Told(draft).picture(*rows, 'face')
                    self.assertEqual(face, told)
                    self.assertGreater(readings(draft, face), 0)
                    self.assertEqual(filled(draft, face), face)
                    self.assertEqual(read(draft, face).face, face)
                    self.assertEqual(read(picture=face, draft=draft), read(draft, face))
                    self.assertEqual(readings(picture=face, draft=Draft(draft.text)), readings(draft, face))
                    holes = random_picture(chosen, width, height, 50, face)
                    self.assertEqual(filled(picture=holes, draft=draft), filled(draft, holes))

    def test_several_ways_to_a_row_count_once(self):
        for text in ('a | a', '( a | a ) ( a | a )', 'a * a a *', '( a + ) + a', 'a a | ( a + ) 2', '( a | b | a ) 2',
                     'b * a a * | a b | a'):
            for turn in (False, True):
                draft = plain.with_plans(text, 'p q | p ( q | q ) | ( p | q ) +')
                for width, height in itertools.product(range(1, 5), range(1, 4)):
                    ends, picks = draft.threading.counted(width), draft.treadling.counted(height)
                    if turn:
                        self.assertEqual(readings(~draft, blank(height, width)), ends * picks)
                    else:
                        self.assertEqual(readings(draft, blank(width, height)), ends * picks)
        draft = plain.with_plans('a | a b | a', 'p')
        self.assertEqual(readings(draft, (('blue',),)), 1)
        # What shows the same is told apart by its ends and picks.
        self.assertEqual(readings(Draft('\n'.join((
            'pick p x', 'pick q x', 'end a x #.', 'end b x ##', 'threading ( a | b ) 2', 'treadling ( p | q ) 2'))),
            (('x', None), (None, 'x'))), 16)

    def test_nothing_known(self):
        for draft in drafts(7, 100, 4, 8) + [FREE]:
            for width, height in [(1, 1), (2, 5), (7, 7), (6, 3), (3, 7)]:
                many = draft.threading.counted(width) * draft.treadling.counted(height)
                self.assertEqual(readings(draft, blank(width, height)), many)
                self.assertEqual(filled(draft, blank(width, height)) is None, many == 0)
                self.assertEqual(read(draft, blank(width, height)) is None, many == 0)

    def test_filled_of_what_is_filled(self):
        chosen = random.Random(8)
        more = 0
        for draft in drafts(9, 120, 3, 7):
            width, height = chosen.randint(1, 7), chosen.randint(1, 7)
            cloth = read(draft, blank(width, height))
            if cloth is not None:
                picture = random_picture(chosen, width, height, 25, cloth.face)
                result = filled(draft, picture)
                more += result != picture
                self.assertEqual(filled(draft, result), result)
                self.assertEqual(readings(draft, result), readings(draft, picture))
                for line, told in zip(picture, result):
                    for known, colour in zip(line, told):
                        self.assertIn(known, (None, colour))
        self.assertGreater(more, 30)

    def test_no_cloths(self):
        for picture in [(('red',),), ((None, 'red'), (None, None)), (('blue', None, None),),
                        ((None,), ('blue', ), (None,))]:
            self.assertIsNone(read(plain, picture))
            self.assertIsNone(filled(plain, picture))
            self.assertEqual(readings(plain, picture), 0)
        self.assertIsNone(read(plain, (('white', 'blue'),)))
        self.assertEqual(read(plain, (('blue', None),)), Cloth(plain, ('a', 'b'), ('p',)))
        self.assertEqual(filled(plain, ((None, None),)), (('blue', 'white'),))


class TestSevenBySeven(unittest.TestCase):
    """Pictures of seven by seven of plans with many rows, of which all cloths can't be listed."""

    def by_rows(self, draft, picture):
        """How many cloths show a picture, and what they show, for each row of ends by itself."""
        told = Told(draft)
        many, colours = 0, [[set() for _ in picture[0]] for _ in picture]
        for ends in itertools.product(told.ends, repeat=len(picture[0])):
            if ends in draft.threading:
                going = [[pick for pick in told.picks
                          if all(known in (None, told.crossing(end, pick, 'face')) for end, known in zip(ends, line))]
                         for line in picture]
                ways = 1
                for picks in going:
                    ways *= len(picks)
                many += ways
                if ways:
                    for number, picks in enumerate(going):
                        for at, end in enumerate(ends):
                            colours[number][at] |= {told.crossing(end, pick, 'face') for pick in picks}
        if not many:
            return 0, None
        return many, tuple(tuple(min(shown) if len(shown) == 1 else None for shown in line) for line in colours)

    def test_free_rows_of_picks(self):
        chosen = random.Random(10)
        free = '( p | q | r | s ) +'
        for threading in ('( a | b | c ) + a', '( a b | c ) + | ( d a ) + c', '( a | b c ) + ( d | b ) +'):
            for known in (0, 5, 15, 30):
                draft = four(threading, free)
                picture = random_picture(chosen, 7, 7, known, read(draft, blank(7, 7)).face)
                many, told = self.by_rows(draft, picture)
                self.assertEqual((readings(draft, picture), filled(draft, picture)), (many, told))
                self.assertEqual((readings(~draft, turned(picture)), filled(~draft, turned(picture))),
                                 (many, turned(told)))

    def test_one_thing_known_in_each_row(self):
        for step in (1, 3):
            picture = tuple(tuple('y' if at == number * step % 7 else None for at in range(7)) for number in range(7))
            many, told = self.by_rows(FREE, picture)
            self.assertEqual((readings(FREE, picture), filled(FREE, picture)), (many, told))
            cloth = read(FREE, picture)
            self.assertTrue(shows(Told(FREE).picture(cloth.ends, cloth.picks, 'face'), picture))

    def test_plans_with_many_rows(self):
        chosen = random.Random(11)
        told = [('( a | b + c | d ) +', '( p q * | r s ) +'), ('( a | b ) + ( c | d ) +', '( ( p | q ) 2 | r | s ) +'),
                ('( a b * | c d * ) +', '( p | q | r ) + s *')]
        for plans in told:
            draft = four(*plans)
            for known in (3, 10, 40):
                cloth = read(draft, random_picture(chosen, 7, 7, 3)) or read(draft, blank(7, 7))
                picture = random_picture(chosen, 7, 7, known, cloth.face)
                many, result = readings(draft, picture), filled(draft, picture)
                self.assertEqual(readings(~draft, turned(picture)), many)
                self.assertEqual(filled(~draft, turned(picture)), turned(result))
                # The cloths are just those with one of the colours at some crossing that is not known.
                unknown = [(line, place) for line in range(7) for place in range(7) if picture[line][place] is None]
                number, at = unknown[0]
                parts = [picture[:number] + (picture[number][:at] + (colour,) + picture[number][at + 1:],)
                         + picture[number + 1:] for colour in COLOURS]
                self.assertEqual(sum(readings(draft, part) for part in parts), many)
                can_be = [colour for colour, part in zip(COLOURS, parts) if read(draft, part) is not None]
                self.assertEqual(result[number][at], can_be[0] if len(can_be) == 1 else None)


class TestPictures(unittest.TestCase):
    def test_refused_pictures(self):
        line = ('blue', None)
        wrong = VALUES + [
            (), ((),), ((), ()), (line, ()), (line, line[:1]), (line[:1], line), (line, line + line),
            (line, list(line)),
            [line], [list(line)], [[]], (line,) * 8, (line * 4,), ((None,) * 8,) * 7, ((None,) * 7,) * 8, ('blue',),
            (('Blue',),), (('',),), (('a b',),), (('abcdefghi',),), (('blue\n',),), (('a1',),), (('-',),), (('#',),),
            ((True,),), ((False,),), ((0,),), ((1,),), ((('blue',),),), ((['blue'],),), (({},),), ((None, plain),),
            (line, None), (None,), None, 'blue', ('ab', 'cd'), (line, 'ab'), ({'blue': 1},), {line: 1}, (line, line, 1),
            ((b'blue',),), (('bl\u00fce',),), (plain,), ((line,),), ((None, None), (None, True))]
        for value in wrong:
            for function in (read, readings, filled):
                self.assertIs(refused(BadPicture, function, plain, value), value)
                self.assertIs(refused(BadPicture, function, picture=value, draft=FREE), value)

    def test_pictures_that_go(self):
        for picture in [blank(1, 1), blank(7, 7), blank(7, 1), blank(1, 7), (('abcdefgh',),), (('pick', 'end'),),
                        (('a', None),)]:
            for function in (read, readings, filled):
                function(plain, picture)


class TestGuarantees(unittest.TestCase):
    def test_turned_drafts(self):
        chosen = random.Random(12)
        for draft in drafts(13, 120, 3, 6):
            width, height = chosen.randint(1, 6), chosen.randint(1, 6)
            cloth = read(draft, blank(width, height))
            picture = random_picture(chosen, width, height, 30, cloth and cloth.face)
            self.assertEqual(readings(~draft, turned(picture)), readings(draft, picture))
            self.assertEqual(filled(~draft, turned(picture)), turned(filled(draft, picture)))
            self.assertEqual(read(~draft, turned(picture)) is None, read(draft, picture) is None)

    def test_other_names_another_order_and_other_plans(self):
        chosen = random.Random(14)
        for draft in drafts(15, 80):
            width, height = chosen.randint(1, 5), chosen.randint(1, 5)
            cloth = read(draft, blank(width, height))
            picture = random_picture(chosen, width, height, 30, cloth and cloth.face)
            told = readings(draft, picture), filled(draft, picture)
            for other in (other_names(draft), other_order(draft), written_otherwise(draft)):
                self.assertEqual((readings(other, picture), filled(other, picture)), told)

    def test_arguments_stay_as_they_are(self):
        for draft in drafts(16, 20):
            before = dict(vars(draft))
            for function in (read, readings, filled):
                self.assertEqual(function(draft, blank(2, 2)), function(draft, blank(2, 2)))
            self.assertEqual(dict(vars(draft)), before)
