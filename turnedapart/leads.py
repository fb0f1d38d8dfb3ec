"""All ways to lead some pairs without a ring."""

from turnedapart.errors import TooMany


def all_leads(many, pairs, most):
    """All ways to lead pairs among so many things without a ring, each a tuple in their order; TooMany beyond most."""
    found = [((), [0] * many)]
    for u, v in pairs:
        longer = []
        for row, reach in found:
            for first, last in ((u, v), (v, u)):
                if not reach[last] >> first & 1:
                    longer.append((row + ((first, last),), _reach_with(reach, first, last)))
        found = longer
        # As each row goes on in one way at least, too many beginnings are too many ways.
        if len(found) > most:
            raise TooMany(most)
    return [row for row, reach in found]


def _reach_with(reach, first, last):
    """The numbers whose bits are the things that each thing leads to, with one more pair."""
    more = reach[last] | 1 << last
    return [old | more if thing == first or old >> first & 1 else old for thing, old in enumerate(reach)]
