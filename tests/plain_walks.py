"""A plain reading of [16] and [17]: no code of the package; walks are lists of words, worlds those of tests/plain.py."""

from tests import plain


def at(world, words, thing):
    """The thing at the end of a walk that begins at a thing, or None."""
    for word in words:
        order = world[word[1:]]
        place = order.index(thing) + (1 if word[0] == "+" else -1)
        if not 0 <= place < len(order):
            return None
        thing = order[place]
    return thing


def cancelled(words):
    """The words without pairs that cancel: the first pair is taken away as long as there is one."""
    words = list(words)
    place = 0
    while place < len(words) - 1:
        one, two = words[place:place + 2]
        if one[0] != two[0] and one[1:] == two[1:]:
            del words[place:place + 2]
            place = max(place - 1, 0)
        else:
            place += 1
    return words


def places(words):
    """The places as texts: fewer words first, then in ascending order."""
    told = {" ".join(cancelled(words[:many])) for many in range(len(words) + 1)}
    return sorted(told, key=lambda place: (len(place.split()), place))


def is_part(scene, u, v):
    """Whether where u gives a thing v gives the same, in all worlds with as many things as u can come to, and fewer."""
    for many in range(1, len(places(u)) + 1):
        for world in plain.all_worlds(scene, many):
            for thing in world[scene.rows[0]]:
                end = at(world, u, thing)
                if end is not None and at(world, v, thing) != end:
                    return False
    return True
