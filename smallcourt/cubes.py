"""Cubes: conditions over facts with places, written as two numbers.

A cube is a tuple (holds, fails): the sum of 2 ** place over the facts that must hold, and over
those that must fail. The number of a case is written likewise, so that both can be compared by bits.
"""

from smallcourt.facts import bits_of


def cube_of(facts, condition):
    """Return the cube of a condition."""
    return bits_of(facts, condition.holding), bits_of(facts, condition.failing)


def meets(number, cube):
    """Tell whether the case with a number meets a cube."""
    holds, fails = cube
    return number & (holds | fails) == holds


def joined(cube, other):
    """Return the cube of the cases that meet both; it is never met if the two clash."""
    return cube[0] | other[0], cube[1] | other[1]


def clash(cube, other):
    """Tell whether no case meets both cubes."""
    return cube[0] & other[1] != 0 or cube[1] & other[0] != 0


def rest_of(cube, given):
    """Return what remains of a cube for the cases that meet a given one, with which it does not clash."""
    return cube[0] & ~given[0], cube[1] & ~given[1]


def narrowed(cubes, given):
    """Return what remains of cubes for the cases that meet a given one, without those that clash with it."""
    return [rest_of(cube, given) for cube in cubes if not clash(cube, given)]


def places(bits):
    """Return the ascending list of the places that have a bit in a number."""
    found = []
    while bits:
        low = bits & -bits
        found.append(low.bit_length() - 1)
        bits = bits - low
    return found


def covered(cube, others):
    """Tell whether all cases that meet a cube meet one of the others, by itself."""
    holds, fails = cube
    for more, less in others:
        if holds & more == more and fails & less == less:
            return True
    return False


def widest(cubes):
    """Return the ascending tuple of the cubes that no other one covers; together, they are met by the same cases."""
    kept = []
    # A cube is not less than one that covers it, so those that may cover it stand before it.
    for cube in sorted(set(cubes)):
        if not covered(cube, kept):
            kept.append(cube)
    return tuple(kept)


def apart(cubes):
    """Return the list of the groups of cubes that share no fact, directly or through others."""
    groups = []
    rest = list(cubes)
    while rest:
        first = rest[0]
        named = tied_to(first[0] | first[1], rest)
        groups.append([first] + [cube for cube in rest[1:] if (cube[0] | cube[1]) & named])
        rest = [cube for cube in rest[1:] if not (cube[0] | cube[1]) & named]
    return groups


def tied_to(named, cubes):
    """Return the bits of some facts and of all those that cubes tie to them, directly or through others."""
    before = 0
    while named != before:
        before = named
        for holds, fails in cubes:
            if (holds | fails) & named:
                named = named | holds | fails
    return named


def mentions(cubes):
    """Return a dict from the places of all facts that cubes name to how many of them do."""
    found = {}
    for holds, fails in cubes:
        for place in places(holds | fails):
            found[place] = found.get(place, 0) + 1
    return found
