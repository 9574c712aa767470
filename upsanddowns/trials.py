"""Trials: deeds at a desk behind which the desk is as it was."""

from upsanddowns.errors import BadDeed, RanksError
from upsanddowns.forms import is_row, is_row_of

# The least and the greatest number of arguments that each deed takes.
ARGUMENTS = {
    "tell": (1, 2), "reflect": (0, 0), "lay": (1, 1), "end": (0, 0), "renumber": (2, 2), "merge": (1, 1),
    "split": (0, 0), "undo": (0, 1),
}


class Trial:
    """A with block at whose end the desk is as it was at its beginning."""

    def __init__(self, desk):
        self.desk = desk
        self.is_over = False
        self.kept_before = None
        self.parting_before = None
        self.chosen_before = None
        self.past_before = None

    @property
    def ended(self):
        return self.is_over

    def __enter__(self):
        self.kept_before = self.desk.kept_now
        self.parting_before = self.desk.parting_now
        self.chosen_before = self.desk.chosen_now
        self.past_before = self.desk.past
        self.is_over = False
        return self

    def __exit__(self, kind, value, trace):
        desk = self.desk
        desk.kept_now = self.kept_before
        desk.parting_now = self.parting_before
        desk.chosen_now = self.chosen_before
        desk.past = self.past_before
        self.is_over = True


def check_deeds(deeds):
    """Raises BadDeed for the first item that is no deed with as many arguments as it takes."""
    if not is_row(deeds):
        raise BadDeed("")
    for deed in deeds:
        if not is_row_of(deed, 2) or not isinstance(deed[0], str) or not is_row(deed[1]):
            raise BadDeed("")
        least, most = ARGUMENTS.get(deed[0], (0, -1))
        if not least <= len(deed[1]) <= most:
            raise BadDeed(deed[0])


def done_late(desk, name, row):
    """The news of a deed that needs no table, done at the desk."""
    if name == "renumber":
        return desk.renumber(row[0], row[1])
    if name == "merge":
        return desk.merge(row[0])
    if name == "split":
        return desk.split()
    return desk.undo(row[0]) if len(row) > 0 else desk.undo()


def done(desk, name, row):
    """The news of the deed, done at the desk."""
    if name == "tell":
        return desk.tell(row[0], row[1] if len(row) > 1 else None)
    if name == "reflect":
        return desk.reflect()
    if name == "lay":
        return desk.lay(row[0])
    if name == "end":
        return desk.end()
    return done_late(desk, name, row)


def done_or_refused(desk, name, row):
    """The news of the deed, or how it was refused, and whether it was done."""
    try:
        return done(desk, name, row), True
    except RanksError as fault:
        return ("refused", fault.__class__.__name__), False


def tried(desk, deeds):
    """The news of the deeds, up to the first one that is refused; the desk is left as it was."""
    check_deeds(deeds)
    found = []
    with Trial(desk):
        for name, row in deeds:
            news, is_done = done_or_refused(desk, name, row)
            found.append(news)
            if not is_done:
                break
    return tuple(found)
