"""What a plan means, worked out otherwise: by regular expressions, and by writing all copies out."""

import itertools
import re


def pattern(text):
    """A regular expression for the rows of a plan whose names have one letter each."""
    signs = {'(': '(?:', '2': '{2}', '3': '{3}', '4': '{4}'}
    return re.compile(''.join(signs.get(word, word) for word in text.split(' ')))


def rows(text, most):
    """All rows of up to so many names of such a plan, the empty one, too."""
    letters = sorted(set(text) & set('abcdefghijklmnopqrstuvwxyz'))
    fits = pattern(text).fullmatch
    return {row for many in range(most + 1) for row in itertools.product(letters, repeat=many) if fits(''.join(row))}


def made(random, places, depth=0):
    """A random text with at least one and about so many names, brackets at most four deep."""
    names = []
    for _ in range(random.randint(1, max(1, places))):
        part = random.choice('aabbc')
        if depth < 4 and places > 1 and random.random() < 0.4:
            part = f'( {made(random, places // 2, depth + 1)} )'
        mark = random.choice(['', '', '', ' +', ' *', ' 2', ' 3', ' 4'])
        names.append(part + mark)
        if random.random() < 0.3:
            names.append('|')
    if names[-1] == '|':
        names.pop()
    return ' '.join(names)


def written_out(text):
    """The names of such a plan in the order in which they stand once all copies are written out."""
    words = text.split(' ')
    stack = [[]]
    lengths = [[]]
    for word in words:
        if word == '(':
            stack.append([])
            lengths.append([])
        elif word == ')':
            inside = stack.pop()
            lengths.pop()
            stack[-1].extend(inside)
            lengths[-1].append(len(inside))
        elif word in ('2', '3', '4'):
            last = stack[-1][-lengths[-1].pop():]
            stack[-1].extend(last * (int(word) - 1))
            lengths[-1].append(len(last) * int(word))
        elif word not in ('|', '+', '*'):
            stack[-1].append(word)
            lengths[-1].append(1)
    return tuple(stack[0])
