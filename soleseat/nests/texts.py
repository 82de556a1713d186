"""Plans read from their texts."""

from soleseat.nests.errors import BadText, NoBranch
from soleseat.nests.plans import DEEPEST, MANNERS, Branch, Leaf

# How many figures a number has at most.
FIGURES = 4


class Opened:
    """A branch of which the words up to some place have been read."""

    def __init__(self, at):
        self.at = at
        self.manner = None
        # Above or the sets, as lists of numbers with a stroke between each two.
        self.heads = [[]]
        self.parts = None

    def takes(self, word):
        """Whether a word can stand next."""
        if self.manner is None:
            return word in MANNERS
        if self.parts is not None:
            return word in ("o", "[", "]")
        return word == ":" or _is_number(word) or (word == "|" and self.manner == "votes")

    def take(self, word):
        """Read a word ahead of the parts."""
        if self.manner is None:
            self.manner = word
        elif word == ":":
            self.parts = []
        elif word == "|":
            self.heads.append([])
        else:
            self.heads[-1].append(int(word))

    def made(self):
        """The branch; refused as Branch refuses."""
        if self.manner != "votes":
            return Branch(self.manner, self.parts, above=self.heads[0])
        # Without any word there are no sets, here an empty one: the branch is refused with the same word.
        return Branch(self.manner, self.parts, sets=[tuple(one) for one in self.heads])


def read_plan(text):
    """The branch that a text writes."""
    words = [word for word in text.replace("\n", " ").split(" ") if word != ""]
    for at, word in enumerate(words):
        if not _is_word(word):
            raise BadText(at, "word")
    return _read(words)


def _read(words):
    # The branches that are not ended yet, each within the one ahead of it.
    opened = []
    whole = None
    for at, word in enumerate(words):
        if not _can_stand(opened, whole, word):
            raise BadText(at, "form")
        if word == "[":
            if len(opened) == DEEPEST:
                raise BadText(at, "deep")
            opened.append(Opened(at))
        elif word == "]":
            branch = _end(opened.pop())
            if len(opened) == 0:
                whole = branch
            else:
                opened[-1].parts.append(branch)
        elif word == "o":
            opened[-1].parts.append(Leaf())
        else:
            opened[-1].take(word)
    if whole is None:
        raise BadText(len(words), "form")
    return whole


def _can_stand(opened, whole, word):
    if len(opened) == 0:
        return whole is None and word == "["
    return opened[-1].takes(word)


def _end(branch):
    """The branch whose words have all been read."""
    try:
        return branch.made()
    except NoBranch as refused:
        raise BadText(branch.at, refused.why)


def _is_word(word):
    return word in ("o", "[", "]", ":", "|") or word in MANNERS or _is_number(word)


def _is_number(word):
    if len(word) > FIGURES or not all([sign in "0123456789" for sign in word]):
        return False
    return word == "0" or word[0] != "0"
