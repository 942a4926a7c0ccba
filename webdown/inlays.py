"""Inlays: a little web laid into another one, unlike places on unlike places, tied ones on tied ones."""

from webdown.webs import all_beside


def inlaid(little, web):
    wanted = all_beside(little)
    near = all_beside(web)
    if not has_room(wanted, near):
        return None
    order = search_order(wanted)
    laid = laid_further(wanted, near, order, ())
    if laid is None:
        return None
    return tuple([laid[order.index(place)] for place in little[0]])


def has_room(wanted, near):
    # However many have so many places beside them, as many must have so many there.
    needs = falling_lengths(wanted)
    rooms = falling_lengths(near)
    return len(needs) <= len(rooms) and all([need <= room for need, room in zip(needs, rooms)])


def falling_lengths(near):
    return sorted([len(near[place]) for place in near], reverse=True)


def search_order(wanted):
    # Those tied with most of the ones ahead come first: they can lie in the fewest places.
    order = []
    while len(order) < len(wanted):
        left = [place for place in wanted if place not in order]
        order.append(max(left, key=lambda place: (how_many_in(order, wanted[place]), len(wanted[place]))))
    return order


def how_many_in(order, places):
    return len([place for place in places if place in order])


def laid_further(wanted, near, order, laid):
    if len(laid) == len(order):
        return laid
    added = order[len(laid)]
    held_by = [lying for ahead, lying in zip(order, laid) if ahead in wanted[added]]
    chances = near[held_by[0]] if len(held_by) > 0 else list(near)
    for place in chances:
        if place not in laid and has_all(near[place], held_by) and len(near[place]) >= len(wanted[added]):
            further = laid_further(wanted, near, order, laid + (place,))
            if further is not None:
                return further
    return None


def has_all(places, wanted):
    return all([place in places for place in wanted])
