"""Papers that are bent: lists with an item left out, doubled, exchanged, replaced or put in."""

from tests.drawn import ANY_VALUES, drawn_values

KINDS = list(ANY_VALUES) + drawn_values(90, 30)


def without_one(items):
    """Return the lists with one item left out."""
    return [items[:at] + items[at + 1:] for at in range(len(items))]


def with_one_twice(items):
    return [items[:at + 1] + items[at:] for at in range(len(items))]


def with_two_exchanged(items):
    found = []
    for one in range(len(items)):
        for other in range(one + 1, len(items)):
            bent = list(items)
            bent[one], bent[other] = bent[other], bent[one]
            found.append(bent)
    return found


def with_values(items, values):
    """Return the lists with one of the values in the place of an item, or put in."""
    found = []
    for at in range(len(items) + 1):
        for value in values:
            found.append(items[:at] + [value] + items[at:])
            if at < len(items):
                found.append(items[:at] + [value] + items[at + 1:])
    return found


def cut(items):
    """Return the lists that end early or begin late."""
    return [items[:at] for at in range(len(items))] + [items[at:] for at in range(1, len(items))]


def bent_flows(source, plant_deeds, flow, many):
    """Return so many drawn bent flows at most: cut, gone on, with deeds left out, doubled, exchanged or of any kind."""
    found = cut(flow) + without_one(flow) + with_one_twice(flow) + with_two_exchanged(flow)
    found += with_values(flow, plant_deeds)
    found += with_values(flow, source.sample(KINDS, 8))
    found += with_values(flow, [list(deed) for deed in source.sample(plant_deeds, 2)])
    return [flow] + source.sample(found, min(many, len(found)))


def bent_numbers(value):
    """Return the tuples that differ from nested tuples of numbers in one number, by one or by kind."""
    if not isinstance(value, tuple):
        return [value + 1, value - 1, bool(value), str(value), None]
    return [value[:at] + (item,) + value[at + 1:] for at in range(len(value)) for item in bent_numbers(value[at])]


def bent_places(place):
    """Return the values that differ from a place in one number, in a list or in their length."""
    found = bent_numbers(place) + [list(place), (place,), place + (0,), place[:4], place[1:], ()]
    for at in (0, 1, 3):
        found += [place[:at] + (part,) + place[at + 1:] for part in (list(place[at]), place[at] + (0,), (), None)]
    queues = place[1]
    found += [place[:1] + (queues[:at] + (queue,) + queues[at + 1:],) + place[2:]
              for at in range(len(queues)) for queue in (list(queues[at]), queues[at] + (-1,), queues[at][1:])]
    return found
