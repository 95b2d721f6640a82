"""Exact fractions: tuples of a numerator and a denominator above 0, in lowest terms."""


def greatest_divisor(first, second):
    while second > 0:
        rest = first % second
        first = second
        second = rest
    return first


def lowest(top, bottom):
    divisor = greatest_divisor(abs(top), bottom)
    return (top // divisor, bottom // divisor)


# Answers fraction + amount * other, in one step so that it is brought to lowest terms once.
def plus_times(fraction, amount, other):
    top = fraction[0] * other[1] + amount * other[0] * fraction[1]
    return lowest(top, fraction[1] * other[1])


def divided(fraction, amount):
    # The document has it so where nothing goes through a node.
    if amount == 0:
        return (0, 1)
    return lowest(fraction[0], fraction[1] * amount)


def times(amount, fraction):
    return lowest(amount * fraction[0], fraction[1])


# pairs are of an amount and a fraction.
def sum_of_products(pairs):
    total = (0, 1)
    for amount, fraction in pairs:
        total = plus_times(total, amount, fraction)
    return total


# Whole numbers that are to one another as the fractions are.
def in_whole_numbers(fractions):
    common = 1
    for fraction in fractions:
        common = common * (fraction[1] // greatest_divisor(common, fraction[1]))
    return [fraction[0] * (common // fraction[1]) for fraction in fractions]
