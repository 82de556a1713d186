"""The key that callers hand on."""


class Key:
    """The round of a key, how often each member was served, and the line of the members that get it next."""

    def __init__(self, of_round, served, line):
        self.round = of_round
        self._served = {member: number for member, number in served}
        self._line = list(line)

    def told(self):
        """(round, served, line), as in a letter."""
        served = tuple([(member, self._served[member]) for member in sorted(self._served)])
        return self.round, served, tuple(self._line)

    def serve(self, member, number):
        """Set the served number of a member."""
        self._served[member] = number

    def renew(self, of_round, members):
        """Be of a greater round, and lose all that are no members of it."""
        self.round = of_round
        self._served = {member: self._served[member] for member in self._served if member in members}
        self._line = [member for member in self._line if member in members]

    def line_up(self, behind, roster, numbers):
        """Strike from the line who is out of the roster, and let stand in it who asked and was not served yet."""
        line = [member for member in self._line if member in roster]
        later = [member for member in roster if member > behind]
        sooner = [member for member in roster if member <= behind]
        for member in later + sooner:
            if member not in line and self._is_due(member, numbers[member]):
                line.append(member)
        self._line = line

    def take_first(self):
        """The line's first, who stands in it no more; None where it is empty."""
        if len(self._line) == 0:
            return None
        return self._line.pop(0)

    def _is_due(self, member, number):
        return member in self._served and number > self._served[member]
