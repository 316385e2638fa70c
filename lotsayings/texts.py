"""Texts of sayings."""

from lotsayings.errors import BadNumber, BadText
from lotsayings.lots import ALL_PLACES, DIGITS, NO_PLACE, is_name, is_sign
from lotsayings.sayings import PARTS

# Words of more digits are not read as numbers: each of them is out of all bounds.
MOST_DIGITS = 3
OUT_OF_BOUNDS = 1000


def written(saying):
    """The text of a saying."""
    words = []
    todo = [saying]
    while todo:
        part = todo.pop()
        if isinstance(part, tuple):
            todo.extend(part[::-1])
        else:
            words.append(str(part))
    return " ".join(words)


def read_saying(text):
    """The saying of a text, else BadText with the number of the first word that cannot stand."""
    words = text.split(" ")
    wanted = ["saying"]
    tokens = []
    for at, word in enumerate(words):
        if not wanted:
            raise BadText(at)
        kind = wanted.pop()
        if kind == "saying" or kind == "lot" or kind == "name":
            parts = parts_behind(at, word, kind)
            wanted.extend(parts[::-1])
            tokens.append(word)
        else:
            tokens.append(number_at(at, word))
            check_bounds(at, tokens, kind)
    if wanted:
        raise BadText(len(words))
    return gathered(tokens)


def parts_behind(at, word, kind):
    """The kinds of the parts that must stand behind a word; BadText if it cannot stand there."""
    if kind == "saying" and word in PARTS:
        return PARTS[word]
    if kind == "lot" and is_sign(word):
        return ("lot", "lot")
    if kind == "lot" and (word == NO_PLACE or word == ALL_PLACES):
        return ()
    if kind != "saying" and is_name(word):
        return ()
    raise BadText(at)


def number_at(at, word):
    """The integer of a word in decimal, without leading zeros; else BadText."""
    if not word or not all([digit in DIGITS for digit in word]):
        raise BadText(at)
    if word[0] == "0" and len(word) > 1:
        raise BadText(at)
    return int(word) if len(word) <= MOST_DIGITS else OUT_OF_BOUNDS


def check_bounds(at, tokens, kind):
    """BadText if the number read last is out of its bounds, or a number a is, once d has been read."""
    last = tokens[-1]
    if kind == "t" and last > 4:
        raise BadText(at) from BadNumber("t")
    if kind == "d" or kind == "num d":
        low = 1 if kind == "d" else 2
        if not low <= last <= 6:
            raise BadText(at) from BadNumber("d")
        rests = last + tokens[-2] if kind == "d" else last
        a = tokens[-3] if kind == "d" else tokens[-2]
        if a >= rests:
            raise BadText(at) from BadNumber("a")


def gathered(tokens):
    """The saying whose words, with its numbers, are these."""
    parts = []
    for token in tokens[::-1]:
        many = parts_under(token)
        row = [token]
        for _ in range(many):
            row.append(parts.pop())
        parts.append(tuple(row) if many else token)
    return parts[0]


def parts_under(token):
    """How many parts stand behind a word of a saying or an expression, 0 behind a name or a number."""
    if token in PARTS:
        return len(PARTS[token])
    return 2 if is_sign(token) else 0
