"""Words of the letters u and d: their rise, their heights, and the words made of their letters."""

from upsanddowns.checks import check_any_rank, check_unlike
from upsanddowns.errors import BadWord


def check_word(word):
    """The word itself, if it is a string of the letters u and d."""
    if not isinstance(word, str):
        raise BadWord(-1)
    for at, letter in enumerate(word):
        if letter != "u" and letter != "d":
            raise BadWord(at)
    return word


def rise(word):
    """The number of u less the number of d."""
    check_word(word)
    return word.count("u") - word.count("d")


def heights(word, rank):
    """The heights from the rank, ahead of each letter and behind the last one."""
    check_word(word)
    height = check_any_rank(rank)
    row = [height]
    for letter in word:
        height = height + 1 if letter == "u" else height - 1
        row.append(height)
    return tuple(row)


def dips(word, rank):
    """True if a height is below 0."""
    return min(heights(word, rank)) < 0


def climb(word, rank):
    """The greatest height."""
    return max(heights(word, rank))


def turned(word):
    """The word read from the right with u and d exchanged."""
    check_word(word)
    return "".join(["d" if letter == "u" else "u" for letter in word[::-1]])


def parted(word, chosen):
    """The chosen letters and the other letters, both in the order of the word."""
    check_word(word)
    told = check_unlike(chosen, len(word))
    first = "".join([letter for at, letter in enumerate(word) if at in told])
    second = "".join([letter for at, letter in enumerate(word) if at not in told])
    return first, second
