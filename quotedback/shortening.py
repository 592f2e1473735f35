"""Code made shorter: things that do nothing, and things that are never come to, are left out."""

from quotedback.compiling import PLACES


def shortened(things):
    """Returns code that does the same, with no more things."""
    shorter = without_needless(threaded(things))
    while shorter != things:
        things = shorter
        shorter = without_needless(threaded(things))
    return things


def places_in(thing):
    """Returns all places that a thing tells."""
    places = [thing[at] for at in PLACES.get(thing[0], ())]
    if thing[0] == "case":
        places.extend([place for _, place in thing[2]])
    return places


def with_places(thing, behind):
    """Returns a thing with other places; `behind` is a dict of what is put for each."""
    told = list(thing)
    for at in PLACES.get(thing[0], ()):
        told[at] = behind[told[at]]
    if thing[0] == "case":
        told[2] = [(words, behind[place]) for words, place in thing[2]]
    return tuple(told)


def threaded(things):
    """Returns the things with places to which they would only be sent on put straight."""
    found = []
    for thing in things:
        found.append(with_places(thing, {place: sent_on(things, thing, place) for place in places_in(thing)}))
    return found


def sent_on(things, thing, place):
    """Returns the place at which something is done first, when a thing goes to a place."""
    seen = {}
    while place < len(things) and place not in seen:
        seen[place] = True
        kind = things[place][0]
        if kind == "go" or (kind in ("if 0", "if not 0") and kind == thing[0]):
            place = things[place][1]
        elif kind in ("if 0", "if not 0") and thing[0] in ("if 0", "if not 0"):
            # The status is known, and it is the other one.
            place += 1
        else:
            return place
    return place


def without_needless(things):
    """Returns the things without those that are never come to, or that go where one comes to without them."""
    there = come_to(things)
    kept = [at for at, thing in enumerate(things) if at in there and not is_needless(thing, at)]
    behind = {}
    for at in range(len(things) + 1):
        behind[at] = len([one for one in kept if one < at])
    return [with_places(things[at], behind) for at in kept]


def is_needless(thing, at):
    return thing[0] in ("go", "if 0", "if not 0") and thing[1] == at + 1


def come_to(things):
    """Returns the dict of the places of all things that may be come to."""
    found = {}
    waiting = [0]
    while waiting != []:
        at = waiting.pop()
        if at < len(things) and at not in found:
            found[at] = True
            waiting.extend(places_in(things[at]))
            if things[at][0] != "go":
                waiting.append(at + 1)
    return found
