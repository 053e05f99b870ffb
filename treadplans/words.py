"""What integers and names are, and how the words of a plan stand beside one another."""

MARKS = ("+", "*", "2", "3", "4")
DEEPEST = 4
LONGEST_NAME = 8


def is_integer(value):
    """Whether a value is an integer; True and False are none."""
    return isinstance(value, int) and not isinstance(value, bool)


def is_within(value, least, most):
    """Whether a value is an integer from least to most."""
    return is_integer(value) and least <= value <= most


def is_name(value):
    """Whether a value is a string of 1 to 8 letters a to z."""
    if not isinstance(value, str) or not 1 <= len(value) <= LONGEST_NAME:
        return False
    return all(["a" <= letter <= "z" for letter in value])


def can_follow(before, word):
    """Whether a word can stand right behind the word before."""
    if word == "(" or is_name(word):
        return True
    if word in MARKS:
        return before == ")" or is_name(before)
    return word in (")", "|") and before not in ("(", "|")


def is_spelled(words):
    """Whether the words stand as in a plan, however many places and whichever rows it would have."""
    depth = 0
    # At the beginning stands what can stand behind a bar.
    before = "|"
    for word in words:
        if word == "(":
            depth = depth + 1
        if word == ")":
            depth = depth - 1
        if not can_follow(before, word) or not 0 <= depth <= DEEPEST:
            return False
        before = word
    return depth == 0 and before not in ("(", "|")


def read_choices(words, at):
    """The choices that begin at a word, and the number of the word at which they end.

    The words are spelled well. A choice is a tuple of pairs (inside, mark): inside is a name,
    or the tuple of the choices in brackets; mark is what stands behind it, or an empty string.
    """
    choices = []
    choice = []
    while at < len(words) and words[at] != ")":
        if words[at] == "|":
            choices.append(tuple(choice))
            choice = []
            at = at + 1
        else:
            part, at = read_part(words, at)
            choice.append(part)
    choices.append(tuple(choice))
    return tuple(choices), at


def read_part(words, at):
    """The pair (inside, mark) that begins at a word, and the number of the word behind it."""
    inside = words[at]
    if inside == "(":
        inside, at = read_choices(words, at + 1)
    behind = at + 1
    if behind < len(words) and words[behind] in MARKS:
        return (inside, words[behind]), behind + 1
    return (inside, ""), behind


def backwards(choices):
    """The text of the plan that has the rows of these choices backwards."""
    return " | ".join([backwards_choice(choice) for choice in choices[::-1]])


def backwards_choice(choice):
    """The text of one choice backwards."""
    return " ".join([backwards_part(inside, mark) for inside, mark in choice[::-1]])


def backwards_part(inside, mark):
    """The text of one part backwards, its mark still behind it."""
    text = inside if isinstance(inside, str) else f"( {backwards(inside)} )"
    return f"{text} {mark}" if mark else text
