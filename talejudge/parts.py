"""Parts of a tale, one for each thing, and orders of the parts joined to one of the whole."""

from talejudge.errors import NoOrder, NoThing
from talejudge.orders import explains, is_step
from talejudge.tales import deeds


def part(tale, name):
    thing = thing_named(tale, name)
    places = []
    for deed in deeds(tale):
        if deed[1] == name:
            # The begin's place and the end's; None of an open deed is the place of no event.
            places.extend(deed[5:])
    return ((thing,), tuple([event for place, event in enumerate(tale[1]) if place in places]))


# Asked of anything as a name.
def thing_named(tale, name):
    if isinstance(name, str):
        for thing in tale[0]:
            if thing[0] == name:
                return thing
    raise NoThing("the tale has no thing of this name")


def numbers_of(tale, name):
    thing = thing_named(tale, name)
    return [number for number, deed in enumerate(deeds(tale)) if deed[1] == thing[0]]


def joined(tale, orders):
    if not isinstance(orders, list) or len(orders) != len(tale[0]):
        raise NoOrder("there is not one order for each thing")
    for thing, order in zip(tale[0], orders):
        if not explains_part(tale, thing[0], order):
            raise NoOrder("an order does not explain its thing's part")
    return merged(orders)


# Asked of anything as an order; it has the whole tale's numbers.
def explains_part(tale, name, order):
    own = numbers_of(tale, name)
    many = len(deeds(tale))
    if not isinstance(order, list) or not all([is_step(step, many) and step[0] in own for step in order]):
        return False
    return explains(part(tale, name), "strict", [(own.index(number), answer) for number, answer in order])


def merged(orders):
    left = [list(order) for order in orders if len(order) > 0]
    told = []
    # Of all steps left take the one whose deed ended first. The first step left of its thing began ahead of that end,
    # as its order is strict; so did the first step with the least number, as deeds are numbered by their begins.
    # So nothing that is left ended ahead of that one's begin: it may always be next.
    while len(left) > 0:
        least = min(left, key=lambda steps: steps[0][0])
        told.append(least.pop(0))
        left = [steps for steps in left if len(steps) > 0]
    return told
