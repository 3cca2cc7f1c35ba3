"""Ranks of keepers by what their days cost, beside the best plan."""

from sunstore.best import best_plan
from sunstore.costs import costs
from sunstore.keepers import day_of
from sunstore.triples import added, ahead, multiplied


def ranks(house, keepers):
    """A list of (number, costs, more), rising by costs, of like ones by number."""
    least = costs(house, best_plan(house)[0])
    found = []
    for number, keeper in enumerate(keepers):
        told = costs(house, day_of(house, keeper))
        more = added(told, multiplied(least, (-1, 1)))
        place = len([entry for entry in found if not ahead(told, entry[1])])
        found.insert(place, (number, told, more))
    return found
