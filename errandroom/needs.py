"""Needs: which keys are read behind a place ahead of being set, and by which way."""

from errandroom.deeds import leads_at, read_at
from errandroom.places import places, slid


def needs(errand):
    needed = needed_keys(errand)
    return tuple([(place, tuple(sorted(needed[slid(errand, place)]))) for place in places(errand)])


# A list of needed keys for each place that slides nowhere else: what is read there, and then, over again till
# nothing more is found, what is needed where it leads and is not set on the way.
def needed_keys(errand):
    leads = {}
    needed = {}
    for place in places(errand):
        if slid(errand, place) == place:
            leads[place] = leads_at(errand, place)
            needed[place] = sorted(set(read_at(errand, place)))
    grown = True
    while grown:
        grown = False
        for place in leads:
            fresh = needed_beyond(leads[place], needed, needed[place])
            grown = grown or len(fresh) > 0
            needed[place] = needed[place] + fresh
    return needed


# The keys that are needed where the leads go, not set on the way, and not known yet.
def needed_beyond(leads, needed, known):
    fresh = []
    for there, keys in leads:
        fresh.extend([key for key in needed[there] if key not in keys and key not in known])
    return sorted(set(fresh))


# Ways become longer step by step, so the first that ends where the key is read reads it nowhere ahead.
def way_to(errand, place, key):
    if place not in places(errand):
        return None
    first = slid(errand, place)
    seen = {first: True}
    ways = [(first,)]
    while len(ways) > 0:
        longer = []
        for way in ways:
            if key in read_at(errand, way[-1]):
                return way
            for there in unset_leads(errand, way[-1], key):
                if there not in seen:
                    seen[there] = True
                    longer.append(way + (there,))
        ways = longer
    return None


def unset_leads(errand, place, key):
    return [there for there, keys in leads_at(errand, place) if key not in keys]
