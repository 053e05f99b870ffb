"""Section 15: journals of looms."""

import random
import unittest

from treadplans.drafts import Draft
from treadplans.errors import BadDraft, BadJournal, NothingToRedo, NotNow
from treadplans.journals import read_journal
from treadplans.looms import Loom
from tests.test_looms import everything, looms, redone_all, undone_all
from tests.values import NO_STRINGS, PLAIN, VALUES, refused

plain = Draft(PLAIN)
YARNED = '\n'.join((
    'pick p white', 'pick q red', 'end a blue #.', 'end b white .#', 'yarn p q', 'yarn b a',
    'threading ( a | b ) +', 'treadling p q * p'))
OTHER_BLANKS = ['\t', '\r', '\x0b', '\x0c', '\x1c', '\x85', '\xa0', '\u2003', '\u2028']


def journal_of(draft, *lines):
    """A journal by its lines."""
    return '\n'.join(['draft'] + ['  ' + line for line in draft.split('\n')] + list(lines))


class TestJournal(unittest.TestCase):
    def test_lines(self):
        loom = Loom(plain, ('a', 'b'))
        self.assertEqual(loom.journal(), journal_of(PLAIN, 'loom a b'))
        self.assertEqual(loom.journal().split('\n')[:3], ['draft', '  pick p white', '  pick q white'])
        loom.weave('p')
        loom.weave_all(('q', 'p', 'q'))
        loom.weave_all(())
        self.assertEqual(loom.journal(), journal_of(PLAIN, 'loom a b', 'weave p', 'weave q p q', 'weave'))
        loom.undo()
        loom.undo()
        self.assertEqual(loom.journal(), journal_of(PLAIN, 'loom a b', 'weave p'))
        loom.redo()
        loom += 'p'
        self.assertEqual(loom.journal(), journal_of(PLAIN, 'loom a b', 'weave p', 'weave q p q', 'weave p'))
        yarned = Loom(Draft(YARNED), ('b', 'a', 'a'))
        yarned.weave_all(('p', 'q'))
        self.assertEqual(yarned.journal(), journal_of(YARNED, 'loom b a a', 'weave p q'))
        self.assertEqual(read_journal(yarned.journal()).journal(), yarned.journal())

    def test_what_is_written_is_read(self):
        deeds = set()
        for chosen, loom, _ in looms(1, 150):
            for _ in range(5):
                what = chosen.choice(['weave', 'weave', 'all', 'none', 'undo', 'redo'])
                if what == 'weave' and loom.can:
                    loom.weave(chosen.choice(loom.can))
                elif what == 'all':
                    loom.weave_all(loom.finished())
                elif what == 'none':
                    loom.weave_all(())
                elif what == 'undo' and len(undone_all(loom)) > 1:
                    loom.undo()
                elif what == 'redo' and len(redone_all(loom)) > 1:
                    loom.redo()
            text = loom.journal()
            before = everything(loom)
            again = read_journal(text)
            self.assertIsInstance(again, Loom)
            self.assertEqual((again, again.draft, again.journal()), (loom, loom.draft, text))
            self.assertEqual(undone_all(again), undone_all(loom))
            self.assertIsNone(refused(NothingToRedo, again.redo))
            self.assertEqual(everything(loom), before)
            self.assertEqual(text.split('\n')[0], 'draft')
            self.assertEqual(read_journal(text=text), again)
            deeds.add(len(undone_all(loom)))
        self.assertGreater(len(deeds), 4)

    def test_no_strings(self):
        for value in NO_STRINGS + [b'draft', ['draft'], Loom(plain, ('a', 'b'))]:
            self.assertEqual(refused(BadJournal, read_journal, value), 0)
            self.assertEqual(refused(BadJournal, read_journal, text=value), 0)


class TestRefusedJournals(unittest.TestCase):
    def number(self, text):
        return refused(BadJournal, read_journal, text)

    def test_the_first_line(self):
        for line in ['', ' draft', 'draft ', 'Draft', 'drafts', '  draft', 'loom a b', 'draft x', '\ndraft', 'weave p']:
            for behind in ['', '\n', journal_of(PLAIN, 'loom a b', 'weave p')[5:]]:
                self.assertEqual(self.number(line + behind), 1, line)

    def test_missing_lines(self):
        lines = journal_of(PLAIN, 'loom a b', 'weave p').split('\n')
        for many in range(1, 8):
            self.assertEqual(self.number('\n'.join(lines[:many])), many + 1)
            # An empty line in its place, or at the end, cannot stand there.
            self.assertEqual(self.number('\n'.join(lines[:many]) + '\n'), many + 1)
            self.assertEqual(self.number('\n'.join(lines[:many] + ['', ''])), many + 1)
        read_journal('\n'.join(lines[:8]))
        read_journal('\n'.join(lines))

    def test_the_loom_in_the_place_of_a_line_of_the_draft(self):
        lines = ['draft'] + ['  ' + line for line in PLAIN.split('\n')]
        for many in range(1, 7):
            for line in ['loom a b', 'weave p', 'loom', 'draft']:
                self.assertEqual(self.number('\n'.join(lines[:many] + [line])), many + 1)
                self.assertEqual(self.number('\n'.join(lines[:many] + [line, 'weave p'])), many + 1)
        # A line is left out: the next one that cannot stand there is told.
        for at, number in [(1, 3), (2, 3), (3, 4), (4, 5), (5, 6), (6, 7)]:
            text = '\n'.join(lines[:at] + lines[at + 1:] + ['loom a b'])
            try:
                Draft('\n'.join(line[2:] for line in (lines[:at] + lines[at + 1:])[1:]))
            except BadDraft as caught:
                self.assertEqual(self.number(text), caught.value + 1)
            else:
                self.fail(number)

    def test_lines_that_a_draft_refuses(self):
        seen = set()
        good = PLAIN.split('\n')
        wrong = ['', 'pick', 'pick a white', 'pick r white ', 'end c blue #', 'end a blue ##', 'yarn a', 'yarn a p',
                 'threading',
                 'threading a c', 'threading p', 'treadling a', 'treadling p | ', 'loom a b', 'weave p',
                 ' pick r white', 'end']
        for at in range(len(good) + 1):
            for line in wrong:
                for lines in (good[:at] + [line] + good[at:], good[:at] + [line] + good[at + 1:]):
                    try:
                        Draft('\n'.join(lines))
                    except BadDraft as caught:
                        number = caught.value
                    else:
                        continue
                    seen.add(number)
                    for behind in [('loom a b',), ('loom a b', 'weave p'), ('loom',), ()]:
                        self.assertEqual(self.number(journal_of('\n'.join(lines), *behind)), number + 1, lines)
        self.assertEqual(seen, set(range(1, 8)))

    def test_blanks_ahead_of_a_draft(self):
        lines = journal_of(PLAIN, 'loom a b', 'weave p').split('\n')
        for at in range(1, 7):
            for ahead in ['', ' ', '   ', '    ', '\t', '\t\t', ' \t', '  \t', '\xa0\xa0', '\u2003', ' \xa0', '\r ',
                          '. ']:
                text = '\n'.join(lines[:at] + [ahead + lines[at][2:]] + lines[at + 1:])
                self.assertEqual(self.number(text), at + 1, (at, ahead))

    def test_the_line_of_the_loom(self):
        wrong = ['loom', 'loom ', 'loom a', 'loom b a', 'loom a  b', 'loom a b ', ' loom a b', '  loom a b',
                 'Loom a b', 'loom p q',
                 'loom a b c', 'looms a b', 'a b', '', 'weave p', 'loom  a b', 'draft', 'loom a b a', '  pick r white',
                 'loom A b']
        for line in wrong:
            for behind in [(), ('weave p',), ('',), ('loom a b',)]:
                self.assertEqual(self.number(journal_of(PLAIN, line, *behind)), 8, line)
        self.assertEqual(read_journal(journal_of(PLAIN, 'loom a b a b')), Loom(plain, ('a', 'b', 'a', 'b')))

    def test_the_lines_of_the_deeds(self):
        wrong = ['weave q p', 'weave p p', 'weave x', 'weave a', 'weave ', 'weave  ', 'weave p ', ' weave p',
                 '  weave p',
                 'weave  p', 'weave p  q', 'Weave p', 'weaves p', 'weave P', '', ' ', 'undo', 'redo', 'loom a b', 'p',
                 'draft',
                 'weave p q p q q', 'weave weave', 'weave p x', '  pick r white']
        for ahead in [(), ('weave',), ('weave p', 'weave q'), ('weave p q p q', 'weave', 'weave')]:
            for line in wrong:
                for behind in [(), ('weave p',), ('',), ('weave p', 'wrong')]:
                    text = journal_of(PLAIN, 'loom a b', *ahead, line, *behind)
                    self.assertEqual(self.number(text), 9 + len(ahead), line)
            # A line feed at the end begins a line more, which has not this form.
            self.assertEqual(self.number(journal_of(PLAIN, 'loom a b', *ahead) + '\n'), 9 + len(ahead))
            self.assertEqual(self.number(journal_of(PLAIN, 'loom a b', *ahead) + '\n\n'), 9 + len(ahead))
        # What has been woven decides.
        text = journal_of(PLAIN, 'loom a b', 'weave p', 'weave p', 'weave q')
        self.assertEqual(self.number(text), 10)
        read_journal(journal_of(PLAIN, 'loom a b', 'weave p', 'weave q', 'weave p'))
        loom = Loom(plain, ('a', 'b'))
        loom.weave('p')
        self.assertEqual(refused(NotNow, loom.weave, 'p'), 'p')

    def test_other_blanks(self):
        for sign in OTHER_BLANKS:
            told = [
                ('draft' + sign + journal_of(PLAIN, 'loom a b')[5:], 1), (journal_of(PLAIN, f'loom a{sign}b'), 8),
                (journal_of(PLAIN, f'loom{sign}a b'), 8), (journal_of(PLAIN, f'loom a b{sign}'), 8),
                (journal_of(PLAIN, 'loom a b', f'weave{sign}p'), 9),
                (journal_of(PLAIN, 'loom a b', f'weave p{sign}'), 9),
                (journal_of(PLAIN, 'loom a b', f'weave p{sign}q'), 9),
                (journal_of(PLAIN, 'loom a b', f'weave{sign}'), 9),
                (journal_of(PLAIN, 'loom a b', 'weave p', sign), 10),
                (journal_of(PLAIN.replace('\n', sign + '\n'), 'loom a b'), 2),
                (journal_of(PLAIN.replace('q white', f'q{sign}white'), 'loom a b'), 3)]
            for text, number in told:
                self.assertEqual(self.number(text), number, repr(text))

    def test_strings_that_are_no_journals(self):
        for value in VALUES:
            if isinstance(value, str):
                self.assertEqual(self.number(value), 1)

    def test_lines_mixed(self):
        chosen = random.Random(3)
        good = journal_of(PLAIN, 'loom a b', 'weave p', 'weave q p', 'weave').split('\n')
        for _ in range(400):
            lines = list(good)
            at = chosen.randrange(len(lines))
            lines[at:at + chosen.randint(0, 1)] = [chosen.choice(good)] * chosen.randint(0, 2)
            text = '\n'.join(lines)
            number = self.first_wrong(lines)
            if number is None:
                self.assertEqual(read_journal(text).journal(), text)
            else:
                self.assertEqual(self.number(text), number, text)

    @staticmethod
    def first_wrong(lines):
        """The number of the first line that cannot stand there, or of the one that is missing: each line is asked for
        whether some journal begins with the lines up to it."""
        for many in range(1, len(lines) + 1):
            if not any(TestRefusedJournals.is_read(lines[:many] + more) for more in TestRefusedJournals.endings()):
                return many
        return None if TestRefusedJournals.is_read(lines) else len(lines) + 1

    @staticmethod
    def endings():
        """Lines of which some make each beginning of a journal of these lines a whole one."""
        plans = ['  threading ( a b ) +', '  treadling p | p ( q p ) +']
        kinds = ['  pick p white', '  end a blue #', '  end b blue .', '  end b blue .#']
        loom = ['loom a b']
        yield []
        yield loom
        for first in ([], kinds[:1]):
            for ends in ([], kinds[1:3], ['  end a blue #.', kinds[3]], [kinds[2]], [kinds[3]], ['  end a blue ##']):
                for plan in (plans, ['  threading a b | a', plans[1]], plans[1:], ['  treadling p | q | p q'], []):
                    yield first + ends + plan + loom
                    yield first + ends + ['  threading a', '  treadling p', 'loom a']

    @staticmethod
    def is_read(lines):
        try:
            read_journal('\n'.join(lines))
        except BadJournal:
            return False
        return True
