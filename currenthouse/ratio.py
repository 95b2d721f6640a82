"""Exact fractions: tuples of a numerator and a denominator above 0, in lowest terms."""


def greatest_divisor(first, second):
    while second > 0:
        rest = first % second
        first = second
        second = rest
    return first


def lowest(top, bottom):
    divisor = greatest_divisor(abs(top), bottom)
    return (top // divisor, bottom // divisor)


def plus_times(fraction, amount, other):
    """fraction + amount * other, amount being a whole number."""
    top = fraction[0] * other[1] + amount * other[0] * fraction[1]
    return lowest(top, fraction[1] * other[1])


def divided(fraction, amount):
    """fraction / amount; 0 if amount is 0, as the document has it where nothing goes through a node."""
    if amount == 0:
        return (0, 1)
    return lowest(fraction[0], fraction[1] * amount)
