"""What machines on a tree and the letters under way between them tell of the key and of the wishes for it."""


def key_place(machines, letters):
    """(seat, None) of who has the key, (seat, sender) where it is under way, None where it is nowhere."""
    for seat, machine in enumerate(machines):
        if machine.has_key():
            return seat, None
    for a, b, letter in letters:
        if letter[0] == "key":
            return b, a
    return None


def wish_at(twigs, letters, seat):
    """Where the wish of a twig is: on the road, in a queue, or answered by a key; None where it is nowhere."""
    if not twigs[seat].sent:
        return None
    toward = twigs[seat].toward
    if (seat, toward, ("wish",)) in letters:
        return "road", toward
    if seat in twigs[toward].queue:
        return "queue", toward, twigs[toward].queue.index(seat)
    if (toward, seat, ("key",)) in letters:
        return "key", toward
    return None


def line_of(turners, letters):
    """The turners that get the key one behind the other, from the key's place on; none where that asks not."""
    place = key_place(turners, letters)
    if place is None or turners[place[0]].state == "out":
        return []
    return _line_from(turners, place[0])


def walk_up(turners, letters, seat):
    """The seats to which ups, and steps by the wishes under way, lead from a seat on, itself first."""
    steps = {}
    for _, to, letter in letters:
        if letter[0] == "wish":
            # The wish of a seat leads on from the last that is to get the key behind that seat.
            steps[_line_from(turners, letter[1])[-1]] = to
    walk = [seat]
    while True:
        up = turners[walk[-1]].up
        if up == walk[-1]:
            up = steps.get(up, up)
        if up == walk[-1]:
            return walk
        walk.append(up)


def _line_from(turners, seat):
    """A seat, who is behind it, who is behind that one, and so on."""
    line = [seat]
    while turners[line[-1]].behind is not None:
        line.append(turners[line[-1]].behind)
    return line
