"""Texts: cloths and pictures, written and read."""

from treadplans.cloths import Cloth
from treadplans.errors import BadPicture, BadText
from treadplans.reading import MOST_THREADS, is_picture
from treadplans.words import is_name

UNKNOWN = "-"


def lines_of(text):
    """The lines of a text, any value: BadText with 0 if it is not a string."""
    if not isinstance(text, str):
        raise BadText(0)
    return text.split("\n")


def row_of_line(line, word, plan):
    """The row of a plan that a line tells behind a word; None if it tells none."""
    words = line.split(" ")
    row = tuple(words[1:])
    return row if words[0] == word and row in plan else None


def show_cloth(cloth):
    """The two lines of the ends and the picks of a cloth."""
    return "\n".join([" ".join(("ends",) + cloth.ends), " ".join(("picks",) + cloth.picks)])


def read_cloth(draft, text):
    """The cloth of a draft that two lines tell."""
    lines = lines_of(text)
    ends = row_of_line(lines[0], "ends", draft.threading)
    if ends is None:
        raise BadText(1)
    picks = row_of_line(lines[1], "picks", draft.treadling) if len(lines) > 1 else None
    if picks is None:
        raise BadText(2)
    if len(lines) > 2:
        raise BadText(3)
    return Cloth(draft, ends, picks)


def show_picture(picture):
    """A line for each pick of a picture, with its colours."""
    if not is_picture(picture):
        raise BadPicture(picture)
    return "\n".join([" ".join([UNKNOWN if colour is None else colour for colour in line]) for line in picture])


def line_of_words(words):
    """The line of a picture that some words tell; None if they tell none."""
    if len(words) > MOST_THREADS or not all([word == UNKNOWN or is_name(word) for word in words]):
        return None
    return tuple([None if word == UNKNOWN else word for word in words])


def read_picture(text):
    """The picture whose lines a text tells."""
    picture = []
    for line in lines_of(text):
        told = line_of_words(line.split(" "))
        if told is None or len(picture) == MOST_THREADS or picture and len(told) != len(picture[0]):
            raise BadText(len(picture) + 1)
        picture.append(told)
    return tuple(picture)
