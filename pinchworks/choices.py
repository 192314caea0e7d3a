"""All ways to choose one thing out of each of several lists."""


def all_choices(lists):
    """Return the list of all tuples with one thing of each list, in the order of the lists."""
    found = [()]
    for things in lists:
        found = [chosen + (thing,) for chosen in found for thing in things]
    return found
