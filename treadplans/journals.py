"""Journals: looms that are read from a text, with all that was done on them."""

from treadplans.drafts import Draft
from treadplans.errors import BadDraft, BadJournal, BadPick, NotNow
from treadplans.looms import Loom
from treadplans.texts import row_of_line

INDENT = "  "


def lines_of_draft(lines):
    """The lines of the draft, which stand behind the first line with two blanks ahead, without these."""
    found = []
    for line in lines[1:]:
        if not line.startswith(INDENT):
            break
        found.append(line[len(INDENT):])
    return found


def read_draft(lines):
    """The draft that lines tell: BadJournal with the number that its line has in the journal."""
    try:
        draft = Draft("\n".join(lines))
    except BadDraft as refusal:
        raise BadJournal(refusal.value + 1) from None
    return draft


def weave_line(loom, line, number):
    """Weaves on a loom the deed that a line tells: BadJournal with the number of the line."""
    words = line.split(" ")
    if words[0] != "weave":
        raise BadJournal(number)
    try:
        loom.weave_all(tuple(words[1:]))
    except (BadPick, NotNow):
        raise BadJournal(number) from None


def read_journal(text):
    """The loom of a journal, with the same deeds, of which none can be done again."""
    if not isinstance(text, str):
        raise BadJournal(0)
    lines = text.split("\n")
    if lines[0] != "draft":
        raise BadJournal(1)
    told = lines_of_draft(lines)
    draft = read_draft(told)
    at = len(told) + 1
    ends = row_of_line(lines[at], "loom", draft.threading) if at < len(lines) else None
    if ends is None:
        raise BadJournal(at + 1)
    loom = Loom(draft, ends)
    for number, line in enumerate(lines[at + 1:], start=at + 2):
        weave_line(loom, line, number)
    return loom
