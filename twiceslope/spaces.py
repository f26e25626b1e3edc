"""Sums of multiples of lists that are zero. Nothing is checked here."""

from twiceslope.lists import content


def number_in(column, place):
    """What a list has at a place, 0 behind its end."""
    return column[place] if place < len(column) else 0


def without_content(vector):
    """A list of integers, not all 0, divided by the greatest integer that divides all of them."""
    common = content(vector)
    return [number // common for number in vector]


def narrowed(vectors, values):
    """Vectors that span those of the sums of multiples of some vectors to which a measure gives 0.

    The values are what the measure gives to the vectors, not all of them 0.
    """
    at = [k for k, value in enumerate(values) if value != 0][0]
    pivot, worth = vectors[at], values[at]
    found = []
    for k, vector in enumerate(vectors):
        if k != at and values[k] == 0:
            found.append(vector)
        elif k != at:
            both = [worth * one - values[k] * other for one, other in zip(vector, pivot)]
            found.append(without_content(both))
    return found


def solved(columns, places):
    """The pair (vectors, used) for lists, the columns, and places in them.

    The vectors span those factors with which the columns add up to 0 at all the places; used are the places that
    narrowed them, each one that does nothing new left out.
    """
    many = len(columns)
    vectors = [[1 if k == at else 0 for k in range(many)] for at in range(many)]
    used = []
    for place in places:
        if len(vectors) == 0:
            break
        row = [number_in(column, place) for column in columns]
        values = [sum([row[k] * vector[k] for k in range(many)]) for vector in vectors]
        if any([value != 0 for value in values]):
            used.append(place)
            vectors = narrowed(vectors, values)
    return (vectors, used)
