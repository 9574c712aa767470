"""Words that have equal counts in every web that keeps the numbers."""

from upsanddowns.checks import check_any_rank
from upsanddowns.errors import NoneSuch, NotPositive, TooMany
from upsanddowns.normal import normal_row
from upsanddowns.words import check_word, rise


def check_words(word, other, rank):
    """Raises the error of the first fault in two words and a rank."""
    check_word(word)
    check_word(other)
    check_any_rank(rank)


def same_letters(word, other):
    """True if both words have as many u's and as many d's."""
    return word.count("u") == other.count("u") and word.count("d") == other.count("d")


def are_alike(numbers, word, other, rank):
    """True if the words are alike from the rank."""
    check_words(word, other, rank)
    if not same_letters(word, other):
        return False
    return normal_row(numbers, word, rank) == normal_row(numbers, other, rank)


def check_positive(numbers):
    """Raises NotPositive for the first rank whose r is below 1."""
    for at in range(len(numbers.pairs) + 1):
        if numbers[at][1] < 1:
            raise NotPositive(at)


def apart_start(numbers, word, other, rank):
    """The rank of the highest late chain that tells the words apart, None if they are alike."""
    check_words(word, other, rank)
    check_positive(numbers)
    if not same_letters(word, other):
        raise NoneSuch(rank)
    row = normal_row(numbers, word, rank)
    line = normal_row(numbers, other, rank)
    unlike = [at for at in range(len(row)) if row[at] != line[at]]
    if len(unlike) == 0:
        return None
    return rank - (word.count("d") - unlike[-1])


def same_everywhere(numbers, word, other, rank):
    """True if both words have one rise and equal vals at all levels up to the rank."""
    check_words(word, other, rank)
    if rise(word) != rise(other):
        return False
    return all([
        numbers.val(level, rank, word) == numbers.val(level, rank, other)
        for level in range(rank + 1)
    ])


def words_with(downs, ups):
    """All words with so many letters d and u, ascending."""
    if downs == 0 or ups == 0:
        return ["d" * downs + "u" * ups]
    first = ["d" + word for word in words_with(downs - 1, ups)]
    second = ["u" + word for word in words_with(downs, ups - 1)]
    return first + second


def alike_words(numbers, word, rank):
    """All words alike with this one from the rank, ascending."""
    check_word(word)
    check_any_rank(rank)
    if len(word) > 10:
        raise TooMany(10)
    row = normal_row(numbers, word, rank)
    return tuple([
        other
        for other in words_with(word.count("d"), word.count("u"))
        if normal_row(numbers, other, rank) == row
    ])
