"""Regions: all zones of a kind, each with some start, for which some bounds hold."""

from everyzone.kinds import zone_with

NEXT_NAMES = ("next1", "next2", "next3")
LAST_NAMES = ("last1", "last2", "last3")
# The changes in the order of their moments.
ORDER = ("last3", "last2", "last1", "next1", "next2", "next3")
# Where the start and midnight stand in the rows of a spread.
START = 0
MIDNIGHT = 1


class Region:
    """The bounds of a region, and what follows from them and from its kind of zones.

    `sizes` holds the jumps of the changes that all zones of the region are known to have; any other change a zone of
    the region need not have. `spots` tells where the start, midnight and the known changes stand in the rows of
    `spread`, and spread[i][j] is the greatest value of the moment i minus the moment j in the region; each integer from
    -spread[j][i] up to it is such a value. `told` holds the bounds: for two names, how great the one minus the other
    may be at most.
    """

    def __init__(self, family, spots, spread, sizes, told):
        self.family = family
        self.spots = spots
        self.spread = spread
        self.sizes = sizes
        self.told = told


def whole_region(kind, low, high):
    """The region of all zones of a kind, with all starts whose times are from low to high."""
    return Region(kind, {"start": START, "midnight": MIDNIGHT}, [[0, high], [-low, 0]], {}, {})


def times_in(region):
    """The least and the greatest time of the readings at the starts in a region; those between occur as well."""
    return -region.spread[MIDNIGHT][START], region.spread[START][MIDNIGHT]


def split(region, x, base, n):
    """The regions in which x minus the base is at most n, and in which it is greater: each a list of none or more.

    The base is the start or midnight, and x the start or a change. Where a zone needs to have the change, there is one
    region for each jump of the change.
    """
    if x in region.spots:
        return narrowed(region, x, base, n), narrowed(region, base, x, -n - 1)
    if x in NEXT_NAMES:
        having = with_change(region, x, (x, base, n))
        return having, without_change(region, having, (base, x, -n - 1))
    having = with_change(region, x, (base, x, -n - 1))
    return without_change(region, having, (x, base, n)), having


def narrowed(region, x, y, n):
    """The part of a region in which x minus y, both known in it, is at most n: a list of one region or none."""
    spread = region.spread
    at, by = region.spots[x], region.spots[y]
    if spread[at][by] <= n:
        return [region]
    if spread[by][at] + n < 0:
        return []
    # The new bound shortens the ways that lead over it.
    over = [n + far for far in spread[by]]
    rows = [shorter(row, row[at], over) for row in spread]
    return [Region(region.family, region.spots, rows, region.sizes, {**region.told, (x, y): n})]


def shorter(row, way, over):
    """A row of a spread, where differences may also be reached by a way to a moment and from there on."""
    return [min(far, way + more) for far, more in zip(row, over)]


def without_change(region, having, bound):
    """The part of a region where a change is not within a bound; `having` are the regions where it is."""
    # If the change cannot be there, nothing needs to be said.
    if len(having) == 0:
        return [region]
    x, y, n = bound
    return [Region(region.family, region.spots, region.spread, region.sizes, {**region.told, (x, y): n})]


def with_change(region, name, bound):
    """The parts of a region where a change, which is not known in it, is within a bound: a list, jump by jump."""
    if len(region.sizes) >= region.family.most:
        return []
    rows = spread_with(region, name, [bound, *bounds_beside(region, name), *bounds_told(region, name)])
    if rows is None:
        return []
    x, y, n = bound
    spots = {**region.spots, name: len(region.spots)}
    told = {**region.told, (x, y): n}
    return [Region(region.family, spots, rows, {**region.sizes, name: jump}, told) for jump in region.family.jumps]


def bounds_beside(region, name):
    """The bounds between a change and the start, and the change beside it on the way to the start, if it is known.

    Changes that are farther from the start are never known before it.
    """
    at = ORDER.index(name)
    apart = region.family.apart
    if name in NEXT_NAMES:
        return [("start", name, -1)] + [(other, name, -apart) for other in ORDER[at - 1:at] if other in region.sizes]
    return [(name, "start", 0)] + [(name, other, -apart) for other in ORDER[at + 1:at + 2] if other in region.sizes]


def bounds_told(region, name):
    """The bounds of a region in which a change occurs."""
    return [(x, y, n) for (x, y), n in region.told.items() if name in (x, y)]


def spread_with(region, name, bounds):
    """The spread of a region with one moment more, for which bounds hold; None if they cannot hold."""
    spread, spots = region.spread, region.spots
    places = list(range(len(spread)))
    ahead = [min([spread[at][spots[x]] + n for x, y, n in bounds if y == name]) for at in places]
    behind = [min([n + spread[spots[y]][at] for x, y, n in bounds if x == name]) for at in places]
    if min([ahead[at] + behind[at] for at in places]) < 0:
        return None
    return [shorter(row, way, behind) + [way] for row, way in zip(spread, ahead)] + [[*behind, 0]]


def region_at(region, time):
    """The part of a region with a time at the start, which is one of those in it."""
    return narrowed(narrowed(region, "start", "midnight", time)[0], "midnight", "start", -time)[0]


def example_of(region):
    """A zone and a start in a region."""
    # The greatest differences from one moment hold together, as each keeps the others within their bounds.
    moments = {name: region.spread[at][START] for name, at in region.spots.items()}
    # With the start at 0, the offset there is the reading at the start, which may be its time alone.
    offset = -moments["midnight"] - sum([jump for name, jump in region.sizes.items() if name in LAST_NAMES])
    return zone_with(offset, [(moments[name], region.sizes[name]) for name in ORDER if name in region.sizes]), 0
