"""Pieces of texts, and what they tell; a function here returns None for a piece that can stand nowhere."""

from treerooms.errors import ParseError

MOST_DIGITS = 4
MOST_ROOM_POINTS = 9


def are_digits(text):
    """Whether the text has digits alone, and at least one."""
    return text.isascii() and text.isdigit()


def number_told(text):
    """The number that decimal digits tell, None if there is none."""
    if not are_digits(text) or len(text) > MOST_DIGITS or (len(text) > 1 and text[0] == "0"):
        return None
    return int(text)


def entry_told(text):
    """The entry of a road, which can be below 0."""
    if not text.startswith("-"):
        return number_told(text)
    number = number_told(text[1:])
    return None if number is None or number == 0 else -number


def all_told(texts, read_one):
    """What all the texts tell, as a tuple; None if one of them tells nothing."""
    found = [read_one(text) for text in texts]
    return None if None in found else tuple(found)


def row_told(text):
    """Numbers with `.` between two of them."""
    return all_told(text.split("."), number_told)


def pair_told(text):
    """Two numbers with `.` between them."""
    row = row_told(text)
    return None if row is None or len(row) != 2 else row


def pairs_told(text):
    """Pairs with `,` between two of them."""
    return all_told(text.split(","), pair_told)


def room_told(piece):
    """The number of the points, and the makers, of a room piece."""
    head, colon, rest = piece.partition(":")
    points = number_told(head)
    if points is None or not 1 <= points <= MOST_ROOM_POINTS:
        return None
    if colon == "":
        return points, ()
    makers = rest.split(",")
    if not all([are_digits(maker) and len(maker) == points for maker in makers]):
        return None
    return points, tuple([tuple([int(sign) for sign in maker]) for maker in makers])


def tie_told(piece):
    """The points and the pairs of a tie piece."""
    head, _, rest = piece.partition(":")
    ends = all_told(head.split(">"), number_told)
    pairs = pairs_told(rest)
    return None if ends is None or len(ends) != 2 or pairs is None else (*ends, pairs)


def moves_told(piece):
    """The number of the spots, and the permutations behind that of the member 0, of a moves piece."""
    head, colon, rest = piece.partition(":")
    many = number_told(head)
    rows = () if colon == "" else all_told(rest.split(","), row_told)
    return None if many is None or rows is None else (many, rows)


def spots_told(piece):
    """The pairs of a spots piece."""
    return () if piece == "-" else pairs_told(piece)


def road_told(piece):
    """The entries of a road."""
    return all_told(piece.split("/"), entry_told)


class Pieces:
    """The pieces of a text, which are taken from the left."""

    def __init__(self, text):
        self.text_length = len(text)
        self.row = []
        self.at = 0
        start = 0
        for part in text.split(" "):
            if part:
                self.row.append((start, part))
            start += len(part) + 1

    def take(self, read_one):
        """What the next piece tells, which must be one that the function reads."""
        told = self.take_if(read_one)
        if told is None:
            self.refuse()
        return told

    def take_if(self, read_one):
        """What the next piece tells, None if it is none that the function reads; then it stays the next one."""
        if self.at == len(self.row):
            return None
        told = read_one(self.row[self.at][1])
        if told is not None:
            self.at += 1
        return told

    def take_all(self, read_one):
        """What all the next pieces that the function reads tell, as a tuple."""
        found = []
        told = self.take_if(read_one)
        while told is not None:
            found.append(told)
            told = self.take_if(read_one)
        return tuple(found)

    def take_word(self, words):
        """The next piece, which must be one of the words."""
        if self.at == len(self.row) or self.row[self.at][1] not in words:
            self.refuse()
        self.at += 1
        return self.row[self.at - 1][1]

    def end(self):
        """Refuse any piece that is left."""
        if self.at < len(self.row):
            self.refuse()

    def refuse(self):
        """Raise the error for the next piece, or for a piece that lacks."""
        raise ParseError(self.row[self.at][0] if self.at < len(self.row) else self.text_length)
