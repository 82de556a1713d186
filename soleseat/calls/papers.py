"""What callers and the letters under way between them tell of the key and of the order of those that ask."""


def where_key(callers, letters, *, fallen=()):
    """Who has the key; or on which way it is; or for what the least living seat waits ahead of making one."""
    living = [seat for seat in range(len(callers)) if seat not in fallen]
    for seat in living:
        if callers[seat].bears() is not None:
            return "has", seat
    for a, b, letter in letters:
        if b in living and letter[0] == "key" and letter[1] >= callers[b].round:
            return "way", a, b
    if len(living) == 0:
        return ("nobody",)
    least = living[0]
    marked = [seat for seat in callers[least].roster() if seat in fallen]
    if len(marked) > 0:
        return "marks", least, tuple(marked)
    return "pledges", least, tuple(callers[least].awaits())


def coming(callers, letters, *, fallen=()):
    """The order in which those that ask go in; None where a seat has fallen or an ask is under way."""
    if len(fallen) > 0 or any([letter[0] == "ask" for _, _, letter in letters]):
        return None
    leaver, line = _leaver_and_line(callers, letters)
    asking = [seat for seat in range(len(callers)) if callers[seat].state == "asking"]
    ahead = [seat for seat in line if seat in asking]
    others = [seat for seat in asking if seat not in ahead]
    later = [seat for seat in others if seat > leaver]
    sooner = [seat for seat in others if seat <= leaver]
    return ahead + later + sooner


def _leaver_and_line(callers, letters):
    """Who leaves first, and those to whom the key goes: where it is under way, its taker, too; then its line."""
    for seat, caller in enumerate(callers):
        key = caller.bears()
        if key is not None:
            return seat, list(key[2])
    keys = [(b, letter) for _, b, letter in letters if letter[0] == "key"]
    taker, key = keys[0]
    return taker, [taker] + list(key[3])
