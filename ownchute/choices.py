"""Choices of offers: the smallest sets that make a plant safe, and the greatest stretch with which it is."""

from itertools import combinations

from ownchute.checks import check_number
from ownchute.errors import InvalidOffer, TooMany
from ownchute.lines import MOST_STRETCH
from ownchute.offers import fits
from ownchute.places import MOST_PLACES
from ownchute.verdicts import Safe, judged

MOST_OFFERS = 6


def is_offer(plant, value):
    """Tell whether any value is an offer for the plant."""
    return fits(plant.line.last, value)


def least_sets(plant, offers, *, strict=False, most=5000):
    """Return the list of the sets of offers, as ascending tuples of indexes, that are just enough for safety."""
    if len(offers) > MOST_OFFERS:
        raise TooMany(MOST_OFFERS)
    for at, offer in enumerate(offers):
        if not is_offer(plant, offer):
            raise InvalidOffer(at)
    check_number(most, 1, MOST_PLACES)
    found = []
    for indexes in all_sets(len(offers)):
        if not has_part(indexes, found):
            taken = [offers[at] for at in indexes]
            if is_safe(plant.with_offers(*taken), strict, most):
                found.append(indexes)
    return found


def all_sets(many):
    """Return the sets of so many indexes as ascending tuples, those with fewer first, then ascending."""
    sets = []
    for size in range(many + 1):
        sets.extend(list(combinations(range(many), size)))
    return sets


def has_part(indexes, sets):
    """Tell whether all of one of the sets is among the indexes."""
    return any([all([at in indexes for at in part]) for part in sets])


def is_safe(plant, strict, most):
    """Tell whether a plant is safe, or strictly safe."""
    return isinstance(judged(plant, strict=strict, most=most), Safe)


def greatest_stretch(plant, *, strict=False, most=5000):
    """Return the greatest stretch with which the plant is safe, or strictly safe, 0 if it is with none."""
    for stretch in range(1, MOST_STRETCH + 1):
        if not is_safe(plant.with_offers(("stretch", stretch)), strict, most):
            return stretch - 1
    return MOST_STRETCH
