"""Shellings: orders of the facets in which each one brings a least new face."""

from holerows.errors import BadFamily, BadSets
from holerows.families import is_covered, is_family, is_set, mask_of, points_of


def is_shelling(family, thing):
    """Whether any value is a tuple of the facets in which each one has a new face."""
    check_even(family)
    if not isinstance(thing, tuple) or not all([is_set(part) for part in thing]):
        return False
    return tuple(sorted(thing)) == family and None not in new_masks(thing)


def new_faces(family, facets):
    """The new faces along a shelling."""
    if not is_shelling(family, facets):
        raise BadSets(facets)
    return tuple([points_of(mask) for mask in new_masks(facets)])


def a_shelling(family):
    """A shelling of the family, None if there is none."""
    check_even(family)
    masks = [mask_of(facet) for facet in family]
    seen = set()
    waiting = [()]
    while len(waiting) > 0:
        order = waiting.pop()
        if len(order) == len(masks):
            return tuple([family[place] for place in order])
        for place in places_next(masks, order):
            # What can come next depends on which facets stand ahead, not on their order.
            lot = mask_of(order + (place,))
            if lot not in seen:
                seen.add(lot)
                waiting.append(order + (place,))
    return None


def check_even(family):
    """Raises an error for any value that is no family with facets of one size, and for ()."""
    if not is_family(family) or len(family) == 0:
        raise BadFamily(family)
    if not all([len(facet) == len(family[0]) for facet in family]):
        raise BadFamily(family)


def places_next(masks, order):
    """The places of the facets that have a new face behind those at the places of an order."""
    ahead = [masks[place] for place in order]
    return [place for place, mask in enumerate(masks) if new_mask(mask, ahead) is not None]


def new_masks(facets):
    """For each facet the mask of its new face behind those ahead of it, None if it has none."""
    masks = [mask_of(facet) for facet in facets]
    return [new_mask(mask, masks[:at]) for at, mask in enumerate(masks)]


def new_mask(mask, ahead):
    """The mask of the new face of a facet behind those ahead, None if it has none."""
    # Without a point of it a new face would be one of those ahead.
    needed = [point for point in points_of(mask) if is_covered(mask - (1 << point), ahead)]
    least = mask_of(needed)
    if is_covered(least, ahead):
        return None
    return least
