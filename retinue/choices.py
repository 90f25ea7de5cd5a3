"""Counting and numbering possibilities of which only the numbers are known."""


def choice_at(numbers, index):
    """Return the number of the choice under which the index falls, and the index within this choice.

    The numbers tell how many possibilities each choice has, and their sum is greater than the index.
    """
    choice = 0
    left = index
    while left >= numbers[choice]:
        left -= numbers[choice]
        choice += 1
    return choice, left


def product_of(numbers):
    """Return the product of the numbers: what can be had in all if each tells the ways of one part."""
    total = 1
    for number in numbers:
        total = total * number
    return total


def split_index(numbers, index):
    """Return for each part its own index; the parts have so many ways, and the last one changes fastest."""
    own = []
    left = index
    for number in reversed(numbers):
        left, part = divmod(left, number)
        own.append(part)
    return own[::-1]


def join_index(numbers, own):
    """Return the index that split_index splits into these."""
    index = 0
    for number, part in zip(numbers, own):
        index = index * number + part
    return index
