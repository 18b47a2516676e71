"""How columns are written as lines of words, and how such lines are read."""

from rockbeds.columns import Column, is_name, merges
from rockbeds.errors import ParseError

DIGITS = "0123456789"
MOST_DIGITS = 60


def is_number(word):
    """Whether the word is an integer as texts have it: no leading zeros, no plus, no -0."""
    digits = word[1:] if word.startswith("-") else word
    if not 1 <= len(digits) <= MOST_DIGITS:
        return False
    if not all([digit in DIGITS for digit in digits]):
        return False
    return word == "0" or digits[0] != "0"


def after_sign(sign, name):
    """The sign and the name, nothing for no name."""
    return "" if name is None else sign + name


def column_text(column):
    """The line of a column: its foot with root and mark, then its beds from below."""
    words = [str(column.foot) + after_sign("#", column.root) + after_sign("~", column.mark)]
    for rock, thickness, mark in column.beds:
        words.append(rock + ":" + str(thickness) + after_sign("~", mark))
    return " ".join(words)


def split_at_sign(word, sign):
    """What stands before the sign, and the name behind it, None without a sign. None if that is no name."""
    head, found, name = word.partition(sign)
    if not found:
        return head, None
    return (head, name) if is_name(name) else None


def read_ground(word):
    """The (foot, root, mark) of a column's first word, None if it is no such word."""
    marked = split_at_sign(word, "~")
    if marked is None:
        return None
    rooted = split_at_sign(marked[0], "#")
    if rooted is None or not is_number(rooted[0]):
        return None
    return int(rooted[0]), rooted[1], marked[1]


def read_bed(word):
    """The bed of a word behind the first one, None if it is no such word."""
    marked = split_at_sign(word, "~")
    if marked is None:
        return None
    rock, _, thickness = marked[0].partition(":")
    if not is_name(rock) or not is_number(thickness) or int(thickness) < 1:
        return None
    return rock, int(thickness), marked[1]


def read_column(text, line):
    """The column of one line of a text; the index of the line is for the error."""
    words = text.split(" ")
    ground = read_ground(words[0])
    if ground is None:
        raise ParseError(line, 0)
    beds = []
    for word in range(1, len(words)):
        bed = read_bed(words[word])
        if bed is None or (beds and merges(beds[-1], bed[0])):
            raise ParseError(line, word)
        beds.append(bed)
    foot, root, mark = ground
    return Column(foot, beds, root=root, mark=mark)
