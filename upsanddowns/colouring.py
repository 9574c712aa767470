"""All orders of the places of a web that keep its tables, found by colouring the places."""

from upsanddowns.weights import places_of, ties_from

# Places are numbered rank by rank. A colouring tells a number for each place; the first one has the
# rank of each place as its colour. Two colourings of one web are refined side by side, in one way:
# an order of the places takes the one to the other if it takes each colour to itself.


def numbered_ties(web):
    """For each place its ties, each as (number of the other place, strands to it, strands from it)."""
    places = places_of(web)
    told = {place: number for number, place in enumerate(places)}
    return [[(told[other], out, back) for other, out, back in ties_from(web, place)] for place in places]


def marks_of(ties, colours):
    """For each place its colour, and the colours of the places tied to it with their strands."""
    return [
        (colours[at], tuple(sorted([(colours[other], out, back) for other, out, back in row])))
        for at, row in enumerate(ties)
    ]


def refined(ties, colours, others):
    """Both colourings refined until the marks tell no more; None if no order takes one to the other."""
    many = 0
    while many < len(set(colours)):
        many = len(set(colours))
        marks = marks_of(ties, colours)
        other_marks = marks_of(ties, others)
        if sorted(marks) != sorted(other_marks):
            return None
        told = {mark: number for number, mark in enumerate(sorted(set(marks)))}
        colours = [told[mark] for mark in marks]
        others = [told[mark] for mark in other_marks]
    return colours, others


def first_shared(colours):
    """The first place whose colour another place has, too, None if there is none."""
    for at, colour in enumerate(colours):
        if colours.count(colour) > 1:
            return at
    return None


def marked(colours, place):
    """The colouring with a colour of its own for this place."""
    return [len(colours) if at == place else colour for at, colour in enumerate(colours)]


def rows_from(web, colours, others):
    """The order, rank by rank, that takes each place to the one of its colour."""
    rows = []
    start = 0
    for size in web.sizes:
        images = [others.index(colours[start + place]) - start for place in range(size)]
        rows.append(tuple(images))
        start = start + size
    return tuple(rows)


def place_orders(web, limit):
    """The orders that keep both tables, or more than limit of them if there are more."""
    ties = numbered_ties(web)
    ranks = [place[0] for place in places_of(web)]
    found = []
    stack = [(ranks, ranks)]
    while len(stack) > 0 and len(found) <= limit:
        last = stack.pop()
        pair = refined(ties, last[0], last[1])
        if pair is not None:
            colours, others = pair
            place = first_shared(colours)
            if place is None:
                found.append(rows_from(web, colours, others))
            else:
                later = [at for at, colour in enumerate(others) if colour == colours[place]]
                stack.extend([(marked(colours, place), marked(others, at)) for at in later])
    return found
