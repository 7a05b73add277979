"""Groups of numbers, each as one integer whose bit k is set if the number k belongs to it."""


def group_of(numbers):
    """The group of a list of numbers."""
    group = 0
    for number in numbers:
        group = group | 1 << number
    return group


def numbers_of(group):
    """The ascending list of the numbers of a group."""
    found = []
    while group:
        low = group & -group
        found.append(low.bit_length() - 1)
        group = group ^ low
    return found
