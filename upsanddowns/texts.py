"""The text of a web, written and read."""

from upsanddowns.errors import BadForm, BadNumber, BadPlace, BadRank, BadTable, BadText
from upsanddowns.webs import Web


def digits_of(number):
    """The digits of an integer not below 0."""
    # Python refuses to write some thousands of digits at once, so they are written in pieces.
    pieces = []
    while number >= 10 ** 60:
        number, low = divmod(number, 10 ** 60)
        pieces.append(str(low).zfill(60))
    pieces.append(str(number))
    return "".join(pieces[::-1])


def number_from(word):
    """The number of these digits; BadNumber if they are not written as a text writes them."""
    if not (word.isascii() and word.isdigit()) or (word[0] == "0" and word != "0"):
        raise BadNumber("word")
    # As in digits_of, Python reads a limited number of digits at once.
    head = len(word) % 60
    number = int("0" + word[:head])
    for at in range(head, len(word), 60):
        number = number * 10 ** 60 + int(word[at:at + 60])
    return number


def strand_lines(side, table):
    """A line for each entry of the table above 0."""
    return [
        f"{side} {first} {second} {digits_of(many)}"
        for first, row in enumerate(table)
        for second, many in enumerate(row)
        if many > 0
    ]


def web_text(web):
    """The text of the web."""
    even = web.is_even
    lines = [] if even else ["unlike"]
    for rank, size in enumerate(web.sizes):
        lines.append(f"rank {rank} size {digits_of(size)}")
        if rank > 0:
            lines.extend(strand_lines("up", web.ups[rank - 1]))
            if not even:
                lines.extend(strand_lines("down", web.downs[rank - 1]))
    return "\n".join(lines)


class Reader:
    """What the lines read so far have told of a web."""

    def __init__(self):
        self.unlike = False
        self.told_sizes = []
        self.strands = {}

    def read(self, line):
        """Takes one line that is not empty; an error under BadForm if it does not fit."""
        words = line.split(" ")
        if line == "unlike":
            self.read_unlike()
        elif words[0] == "rank":
            self.read_rank(words)
        elif words[0] == "up" or (words[0] == "down" and self.unlike):
            self.read_strands(words)
        else:
            raise BadNumber("line")

    def read_unlike(self):
        """Takes the line that tells of an uneven web; it stands ahead of all others, once."""
        if self.unlike or len(self.told_sizes) > 0:
            raise BadNumber("line")
        self.unlike = True

    def read_rank(self, words):
        """Takes the words of the line of the next rank."""
        if len(words) != 4 or words[2] != "size":
            raise BadNumber("line")
        rank = number_from(words[1])
        if rank != len(self.told_sizes):
            raise BadRank(rank)
        self.told_sizes.append(number_from(words[3]))

    def read_strands(self, words):
        """Takes the words of a line of strands between the last rank and the one beneath it."""
        if len(words) != 4:
            raise BadNumber("line")
        rank = len(self.told_sizes) - 1
        if rank < 1:
            raise BadRank(rank)
        first, second, many = [number_from(word) for word in words[1:]]
        if first >= self.told_sizes[rank - 1]:
            raise BadPlace(rank - 1, first)
        if second >= self.told_sizes[rank]:
            raise BadPlace(rank, second)
        key = (words[0], rank - 1, first, second)
        if many == 0 or key in self.strands:
            raise BadTable(rank - 1, "ups" if words[0] == "up" else "downs")
        self.strands[key] = many

    def tables_of(self, side):
        """The tables of one sort of strands."""
        return [
            [
                [self.strands.get((side, rank, first, second), 0) for second in range(self.told_sizes[rank + 1])]
                for first in range(self.told_sizes[rank])
            ]
            for rank in range(len(self.told_sizes) - 1)
        ]

    def made(self):
        """The web that the lines tell."""
        downs = self.tables_of("down") if self.unlike else None
        return Web(self.tables_of("up"), downs=downs, sizes=self.told_sizes)


def web_from(text):
    """The web that the text tells."""
    if not isinstance(text, str):
        raise BadText(0)
    reader = Reader()
    for at, line in enumerate(text.split("\n")):
        if line != "":
            read_line(reader, line, at + 1)
    if len(reader.told_sizes) == 0:
        raise BadText(0)
    return reader.made()


def read_line(reader, line, number):
    """Lets the reader take the line; BadText with the line's number if it does not fit."""
    try:
        reader.read(line)
    except BadForm as why:
        raise BadText(number) from why
