"""A search through all short histories, for the tests."""

from remadeclasses.classes import made
from remadeclasses.errors import BadDeed
from remadeclasses.plays import play, standings_after

NEXT = ("next",)


def deeds_of(script, stage, things, holds, most_things, most_holds):
    """All deeds that could be done; some of them are not let by."""
    words, offers, _ = script
    guests = (None,) + tuple(range(len(things)))
    yield NEXT
    if len(things) < most_things:
        for (c, number), _ in made(script, stage)[1]:
            for w in words:
                yield ("make", c, number, w)
    for i in range(len(things)):
        for n in sorted({n for _, n, _ in offers}):
            yield ("read", i, n)
            if len(holds) < most_holds:
                yield ("hold", i, n)
            for w in words:
                for guest in guests:
                    yield ("call", i, n, w, guest)
    for h in range(len(holds)):
        for w in words:
            for guest in guests:
                yield ("ring", h, w, guest)


def search(script, most, most_things=2, most_holds=1):
    """The standings of all things behind all histories of so many deeds, by stage.

    Of histories that leave the same things and bodies held only one is looked at.
    """
    found = [set() for _ in script[2]]
    todo = {(0, (), ()): ()}
    done = set()
    for _ in range(most):
        ahead, todo = todo, {}
        for (stage, things, holds), history in ahead.items():
            for deed in deeds_of(script, stage, things, holds, most_things, most_holds):
                longer = history + (deed,)
                try:
                    left = standings_after(script, longer)
                except BadDeed:
                    continue
                held = holds
                if deed[0] == "hold" and play(script, longer)[-1][0] == "held":
                    # By these one knows which body it is.
                    held += ((deed[1], deed[2], stage, things[deed[1]][:2]),)
                key = (stage + (deed == NEXT), left, held)
                if key not in done:
                    done.add(key)
                    todo[key] = longer
                    found[key[0]].update(left)
    return [tuple(sorted(standings)) for standings in found]
