"""Checks of any thing: whole numbers, pairs and lists of numbers."""


def is_whole(thing):
    # Python counts True and False among its ints.
    return isinstance(thing, int) and not isinstance(thing, bool)


def is_number_below(thing, bound):
    return is_whole(thing) and 0 <= thing < bound


def is_pair(thing):
    return isinstance(thing, tuple) and len(thing) == 2


def is_list_of_numbers_below(thing, bound):
    return isinstance(thing, list) and are_numbers_below(thing, bound)


def is_tuple_of_numbers_below(thing, bound):
    return isinstance(thing, tuple) and are_numbers_below(thing, bound)


def are_numbers_below(things, bound):
    return all([is_number_below(number, bound) for number in things])


def is_rising_list_below(thing, bound):
    if not is_list_of_numbers_below(thing, bound):
        return False
    return all([thing[i] < thing[i + 1] for i in range(len(thing) - 1)])
