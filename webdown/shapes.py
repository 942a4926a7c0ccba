"""The shapes that all the other files speak of: whole numbers, rising tuples, right webs."""

MOST_PLACES = 10


def is_whole(value):
    # Python counts True and False among the ints; here they stand for no number.
    return isinstance(value, int) and not isinstance(value, bool)


def rising(values):
    return tuple(sorted(set(values)))


def is_rising(values):
    return all([values[k] < values[k + 1] for k in range(len(values) - 1)])


def together(tuples):
    gathered = []
    for values in tuples:
        gathered.extend(values)
    return gathered


def is_pair(value):
    return isinstance(value, tuple) and len(value) == 2


def is_place(places, value):
    return is_whole(value) and value in places


def are_some_of(places, value):
    return isinstance(value, tuple) and all([is_place(places, place) for place in value]) and is_rising(value)


def is_order(places, value):
    # Each place once, in whatever order, and nothing else.
    return (
        isinstance(value, tuple)
        and all([is_place(places, place) for place in value])
        and tuple(sorted(value)) == places
    )


def are_places(value):
    # Only whole numbers can be compared with one another, so their kind is asked first.
    return (
        isinstance(value, tuple)
        and all([is_whole(place) for place in value])
        and all([place >= 0 for place in value])
        and is_rising(value)
        and len(value) <= MOST_PLACES
    )


def is_tie(places, value):
    return (
        is_pair(value)
        and is_place(places, value[0])
        and is_place(places, value[1])
        and value[0] < value[1]
    )


def are_ties(places, value):
    return (
        isinstance(value, tuple)
        and all([is_tie(places, tie) for tie in value])
        and is_rising(value)
    )


def is_web(value):
    return is_pair(value) and are_places(value[0]) and are_ties(value[0], value[1])
