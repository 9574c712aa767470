"""Late chains: webs with one place a rank that numbers ask for."""

from upsanddowns.amounts import check_number
from upsanddowns.numbers import first_not_above
from upsanddowns.webs import Web


def chain(numbers, start, top):
    """The late chain of the numbers from the rank start, told to top."""
    check_number("start", start, 0)
    check_number("top", top, start)
    fault = first_not_above(numbers, start, top)
    last = top if fault is None else start + fault - 1
    sizes = [1 if start <= rank <= last else 0 for rank in range(top + 1)]
    ups = [[[1] * sizes[rank + 1]] * sizes[rank] for rank in range(top)]
    downs = [
        [[numbers.gain(start, rank + 1 - start)] * sizes[rank + 1]] * sizes[rank] if rank >= start else []
        for rank in range(top)
    ]
    return Web(ups, downs=downs, sizes=sizes)
