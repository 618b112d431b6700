"""Rows: the still heaps of numbers, held against one another, added, taken away and woven."""

from shellstair.errors import NoNumber, Short
from shellstair.stair import weight, worths


# The still heap of any weight: sums and woven heaps go beyond the bound that holds for numbers.
def still_heap(total):
    from_top = []
    rest = total
    # A step is worth at least twice the one two beneath it: two steps for each bit reach far enough.
    for value in reversed(worths(2 * total.bit_length())):
        if value <= rest:
            from_top.append(1)
            rest -= value
        elif from_top:
            from_top.append(0)
    return list(reversed(from_top))


# Whether it is a whole number with a row; asked of anything, so its kind is asked ahead of its size.
def has_row(number):
    return isinstance(number, int) and not isinstance(number, bool) and 0 <= number < 10 ** 60


def row_of(number):
    if not has_row(number):
        raise NoNumber("a row is told of a whole number from 0 to below 10 ** 60")
    return still_heap(number)


def before(one, other):
    return weight(one) < weight(other)


def plus(one, other):
    return still_heap(weight(one) + weight(other))


def minus(one, other):
    if before(one, other):
        raise Short("more is to be taken away than there is")
    return still_heap(weight(one) - weight(other))


def woven(one, other):
    laid = [0] * (len(one) + len(other) + 1)
    for step, shells in enumerate(one):
        for other_step, other_shells in enumerate(other):
            laid[step + other_step + 2] += shells * other_shells
    return still_heap(weight(laid))
