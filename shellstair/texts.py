"""Texts: numbers written one behind the other without gaps, and read again, whole or in pieces."""

from shellstair.errors import NoEnd, NoNumber, NoSign
from shellstair.rows import row_of
from shellstair.stair import weight


def shown(number):
    row = row_of(number)
    if not row:
        # The row of 0 has no shell, so no end could be seen in its text.
        raise NoNumber("a text is told of a whole number from 1 to below 10 ** 60")
    return "".join(["o" if shells == 1 else "." for shells in row]) + "o"


def written(numbers):
    return "".join([shown(number) for number in numbers])


def has_other_sign(text):
    return text.count("o") + text.count(".") < len(text)


def weight_of_signs(signs):
    return weight([1 if sign == "o" else 0 for sign in signs])


class Reader:
    def __init__(self):
        self.kept = ""

    def feed(self, piece):
        # Ahead of all else, so that a refused piece changes nothing.
        if has_other_sign(piece):
            raise NoSign("a text has no other signs than o and .")
        text = self.kept + piece
        numbers = []
        begin = 0
        end = text.find("oo")
        while end >= 0:
            # The second o of an end is no shell.
            numbers.append(weight_of_signs(text[begin:end + 1]))
            begin = end + 2
            end = text.find("oo", begin)
        self.kept = text[begin:]
        return numbers

    def left(self):
        return self.kept


def read(text):
    reader = Reader()
    numbers = reader.feed(text)
    if reader.left() != "":
        raise NoEnd("signs are left behind the last number's end")
    return numbers


def in_step(text, place):
    found = text.find(".oo", place)
    if found < 0:
        return None
    return found + 3
