"""Families of sets drawn by chance, and what is to be told of them in the plainest way."""

import itertools

TRIANGLE = [(0, 1), (0, 2), (1, 2)]


def subsets(seats):
    """All sets of so many seats, none of them empty, the shortest first."""
    return [one for many in range(1, seats + 1) for one in itertools.combinations(range(seats), many)]


def some_sets(chance, seats, most):
    """A chance family of at most so many sets."""
    told = []
    for _ in range(chance.randrange(most + 1)):
        many = min(seats, chance.choice((1, 2, 2, 3, 3, 4, seats)))
        told.append(tuple(sorted(chance.sample(range(seats), many))))
    return list(dict.fromkeys(told))


def some_meeting_sets(chance, seats, most):
    """A chance family, each two sets of which share a seat."""
    told = []
    for _ in range(most):
        one = tuple(sorted(chance.sample(range(seats), chance.randrange(1, seats + 1))))
        if one not in told and all(set(one) & set(other) for other in told):
            told.append(one)
    return told


def has_whole(choice, sets):
    return any(set(one) <= set(choice) for one in sets)


def is_as_good_as_can_be(seats, sets):
    """Point 39, by each choice of seats."""
    return all(has_whole(choice, sets) != has_whole(set(range(seats)) - set(choice), sets)
               for choice in subsets(seats) + [()])


# Each what point 33 refuses: seats, sets, the refusal's name and its fields.
REFUSED = [
    (0, [], "TooMany", {"what": "seats"}),
    (-1, [()], "TooMany", {"what": "seats"}),
    (61, [(60,)], "TooMany", {"what": "seats"}),
    (10 ** 40, [(0,)] * 201, "TooMany", {"what": "seats"}),
    (9, [(0,)] * 201, "TooMany", {"what": "sets"}),
    (60, list(itertools.combinations(range(60), 2))[:201], "TooMany", {"what": "sets"}),
    (3, [(0, 1), ()], "NoFamily", {"at": 1, "why": "empty"}),
    (3, [(0, 3)], "NoFamily", {"at": 0, "why": "outside"}),
    (3, [(0, 1), (0, 2), (-1, 2)], "NoFamily", {"at": 2, "why": "outside"}),
    (3, [(0, 1), (1, 0)], "NoFamily", {"at": 1, "why": "order"}),
    (3, [(0, 0)], "NoFamily", {"at": 0, "why": "order"}),
    (3, [(0, 1), (1,), (0, 1), ()], "NoFamily", {"at": 2, "why": "again"}),
    (60, [(0,), (1,), (60,)], "NoFamily", {"at": 2, "why": "outside"}),
]


def look_at_refusals(test, told):
    """Hold told(seats, sets) against point 33."""
    for seats, sets, name, fields in REFUSED:
        with test.assertRaises((ValueError, TypeError)) as caught:
            told(seats, list(sets))
        test.assertEqual(type(caught.exception).__name__, name)
        test.assertEqual(vars(caught.exception), fields)
