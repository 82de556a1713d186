"""Sets of seats as numbers: bit k stands for seat k. Choices of seats are counted through so."""


def mask_of(one):
    """The number of a set, or of any seats."""
    return sum([1 << seat for seat in one])


def seats_in(mask):
    """The seats of such a number, rising."""
    return tuple([seat for seat in range(mask.bit_length()) if mask >> seat & 1 == 1])


def has_whole(mask, family):
    """Whether one of the sets of a family, told as numbers, stands whole in this one."""
    return any([mask & one == one for one in family])


def least_masks(family):
    """Those of a family that hold no other one, in their order."""
    return [one for one in family if not any([one != other and one & other == other for other in family])]
