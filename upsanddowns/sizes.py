"""Steps of sizes, roots, and the determinants that they tell."""

from upsanddowns.amounts import check_number, product_of
from upsanddowns.checks import check_rank
from upsanddowns.errors import NotLively


def steps_of(sizes):
    """How much greater each size is than the one beneath it."""
    return tuple([two - one for one, two in zip((0,) + tuple(sizes), sizes)])


def size_steps(web):
    """The steps of the ranks of the web."""
    return steps_of(web.sizes)


def roots_of(numbers, rank):
    """The roots at the rank, in the order of the levels."""
    return [numbers.gain(level, rank + 1 - level) for level in range(rank + 1)]


def root_row(kept, rank):
    """The pairs (root, step) at the rank, in the order of the levels."""
    check_rank(kept.sizes, rank)
    return tuple([(root, step) for root, step in zip(roots_of(kept.numbers, rank), size_steps(kept.web))])


def multiplicities(kept, rank):
    """The unlike roots at the rank, each with the sum of its steps."""
    found = {}
    for root, step in root_row(kept, rank):
        found[root] = found.get(root, 0) + step
    return found


def determinant_by_sizes(kept, rank, shift):
    """The determinant of the table above the rank with shift added on the diagonal, told by sizes."""
    check_rank(kept.sizes, rank)
    check_number("shift", shift, None)
    found = multiplicities(kept, rank)
    return product_of([product_of([shift + root] * found[root]) for root in found])


def multiplicity(kept, rank, number):
    """The sum of the steps of the roots at the rank that equal the number."""
    check_rank(kept.sizes, rank)
    check_number("number", number, None)
    return multiplicities(kept, rank).get(number, 0)


def check_sizes_rise(kept, rank):
    """Raises NotLively if a size up to the rank is less than the one beneath it."""
    if min(size_steps(kept.web)[:rank + 1]) < 0:
        # Sizes fall only where a gain is 0, so there is such a pair.
        dead = kept.numbers.dead_pair(rank)
        raise NotLively(dead[0], dead[1])


def product_by_sizes(kept, rank, steps):
    """The product of the gains from all levels across so many steps, each as often as its step of sizes."""
    check_rank(kept.sizes, rank)
    check_number("steps", steps, 0)
    check_sizes_rise(kept, rank)
    return product_of([
        product_of([kept.numbers.gain(level, rank - level + many)] * step)
        for level, step in enumerate(size_steps(kept.web)[:rank + 1])
        for many in range(1, steps + 1)
    ])
