"""What stampers and the letters under way between them tell of those that are asking."""


def cases(stampers, letters, *, fallen=()):
    """For each living seat that is asking and each seat that it awaits, (asker, other, case), rising."""
    on_their_way = [(a, b) for a, b, letter in letters if letter[0] == "yes"]
    found = []
    for asker in _living_askers(stampers, fallen):
        for other in stampers[asker].awaits():
            found.append((asker, other, _case(stampers, on_their_way, fallen, asker, other)))
    return found


def coming(stampers, *, fallen=()):
    """The living seats that are asking, the one whose stamp is ahead first."""
    return [seat for _, seat in sorted([stampers[seat].stamp for seat in _living_askers(stampers, fallen)])]


def _living_askers(stampers, fallen):
    return [seat for seat in range(len(stampers)) if stampers[seat].state == "asking" and seat not in fallen]


def _case(stampers, on_their_way, fallen, asker, other):
    if (other, asker) in on_their_way:
        return "said"
    if other in fallen:
        return "marked"
    if asker in stampers[other].holds():
        return "held"
    return "asked"
