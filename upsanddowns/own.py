"""What a kept web's ranks keep, and which numbers products and thick webs keep."""

from upsanddowns.checks import check_rank
from upsanddowns.errors import NoneSuch, NotKept
from upsanddowns.joins import check_scales
from upsanddowns.judging import judge
from upsanddowns.numbers import Numbers


def own_numbers(kept, rank):
    """What the rank of the kept web keeps."""
    return judge(kept.web, rank)


def rising_ranks(sizes, rank):
    """The ranks up to this one that have more places than the rank beneath them."""
    return [at for at in range(rank + 1) if sizes[at] > (sizes[at - 1] if at > 0 else 0)]


def told_apart(kept, rank):
    """The least two rising ranks whose gains up to the rank are unlike, or None."""
    rising = rising_ranks(kept.sizes, check_rank(kept.sizes, rank))
    gains = [kept.numbers.gain(at, rank - at) for at in rising]
    for first, one in enumerate(gains):
        for second, two in enumerate(gains):
            if first < second and one != two:
                return (rising[first], rising[second])
    return None


def check_plain_to(kept, rank):
    """Raises NotKept for the first rank up to this one whose q is not 1."""
    for at in range(rank + 1):
        if kept.numbers[at][0] != 1:
            raise NotKept(at, -1, -1)


def product_pair(one, other, rank):
    """The r that the rank of the product keeps with q = 1, None if there is none."""
    check_rank(one.sizes[:min(one.top, other.top) + 1], rank)
    check_plain_to(one, rank)
    check_plain_to(other, rank)
    sums = [
        one.numbers[at][1] + other.numbers[rank - at][1]
        for at in range(rank + 1)
        if one.sizes[at] > 0 and other.sizes[rank - at] > 0
    ]
    if len(sums) == 0:
        return 0
    return sums[0] if all([total == sums[0] for total in sums]) else None


def thick_pair(kept, products, rank):
    """The pair that this rank of the thick web keeps; products are the c * d of the ranks."""
    q, r = kept.numbers[rank]
    if kept.sizes[rank] == 0:
        return (q, r)
    if rank == 0:
        return (q, r * products[0])
    if q * products[rank] % products[rank - 1] != 0:
        raise NoneSuch(rank)
    return (q * products[rank] // products[rank - 1], r * products[rank])


def thick_numbers(kept, rows):
    """The numbers that the thick web keeps."""
    check_scales(rows, kept.top)
    products = [pair[0] * pair[1] for pair in rows]
    pairs = [thick_pair(kept, products, rank) for rank in range(kept.top)]
    return Numbers(pairs + list(kept.numbers.pairs[kept.top:]), tail=kept.numbers.tail)
