"""Healing: cuts that leave no lot narrow."""

from itertools import combinations

from threeexits.editing import can_be_cut, with_cuts
from threeexits.errors import Full, NoPlaces, TooMany
from threeexits.lots import can_build, narrow
from threeexits.places import many_places
from threeexits.plans import MOST_WALLS
from threeexits.webs import is_ascending

MOST_CUT = 14


def after_cuts(plan, places):
    """The plan behind cuts at all of these places."""
    if not are_cuts(plan, places):
        raise NoPlaces()
    if not cuts_fit(plan, places):
        raise Full()
    return with_cuts(plan, places)


def are_cuts(plan, thing):
    """Whether it is an ascending tuple of places that can be cut."""
    if not is_ascending(thing):
        return False
    places = places_to_cut(plan)
    return all([place in places for place in thing])


def places_to_cut(plan):
    """The ascending list of all places that can be cut."""
    return [place for place in range(many_places(plan)) if can_be_cut(plan, place)]


def cuts_fit(plan, places):
    """Whether a plan may have as many walls as are there behind cuts at these places."""
    return len(plan.walls) + len(places) <= MOST_WALLS


def heals(plan, thing):
    """Whether it is places that can be cut, so that no lot is narrow behind the cuts."""
    return are_cuts(plan, thing) and cuts_fit(plan, thing) and can_build(with_cuts(plan, thing))


def fewest_cuts(plan):
    """The ascending tuple of as few places as can be that heals the plan, or None if none does."""
    places = places_to_cut(plan)
    if len(places) > MOST_CUT or not cuts_fit(plan, places):
        raise TooMany(MOST_CUT)
    # What heals still does with more cuts: if all of them don't heal, none do.
    if not can_build(with_cuts(plan, places)):
        return None
    # Each healing cuts a place of each narrow lot, also of those that some cuts leave.
    needed = []
    for many in range(len(places)):
        for chosen in combinations(places, many):
            if all([any([place in chosen for place in row]) for row in needed]):
                more = needed_behind(with_cuts(plan, chosen))
                if more is None:
                    return chosen
                needed.append(more)
    return tuple(places)


def needed_behind(plan):
    """The list of the places that can be cut on a narrow lot, or None if no lot is narrow."""
    lot = narrow(plan)
    if lot is None:
        return None
    return [place for number in lot if number >= plan.sides for place in plan.walls[number][1:-1]]
