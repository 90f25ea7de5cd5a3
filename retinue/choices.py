"""Finding what stands at an index when only the numbers of the possibilities are known."""


def choice_at(numbers, index):
    """Return the number of the choice under which the index falls, and the index within this choice.

    The numbers tell how many possibilities each choice has, and their sum is greater than the index.
    """
    choice = 0
    left = index
    while left >= numbers[choice]:
        left -= numbers[choice]
        choice += 1
    return choice, left
