"""Ropes that come and go, and how many pairs can be made of them then."""

from twobanks.banks import is_point, points_besides
from twobanks.errors import NoPoint, NoRope
from twobanks.pairing import cover_by_pairs, pair_once_more


class Story:
    """Two banks, the ropes between them, and a largest pairing that is kept up with them."""

    def __init__(self, left, right):
        self.left = left
        self.right = right
        self.neighbours = [[] for one in range(left)]
        self.right_of = {}
        self.left_of = {}

    def tie(self, one, other):
        """A rope comes between the two; how many pairs a largest pairing has then."""
        self.check_points(one, other)
        if other not in self.neighbours[one]:
            self.neighbours[one].append(other)
            self.pair_again()
        return len(self.right_of)

    def loosen(self, one, other):
        """The rope between the two goes; how many pairs a largest pairing has then."""
        self.check_points(one, other)
        if other not in self.neighbours[one]:
            raise NoRope("no rope joins the two points")
        self.neighbours[one].remove(other)
        if self.right_of.get(one) == other:
            self.right_of.pop(one)
            self.left_of.pop(other)
            self.pair_again()
        return len(self.right_of)

    def look(self):
        """A tuple of a largest pairing and the two lists of a cover with as many points."""
        pairs = sorted(self.right_of.items())
        cover = cover_by_pairs(self.neighbours, pairs)
        return (pairs, cover[0], cover[1])

    def check_points(self, one, other):
        """Refuse numbers that are no points of their banks."""
        if not is_point(self.left, one):
            raise NoPoint("the first number is no point's of the left bank")
        if not is_point(self.right, other):
            raise NoPoint("the second number is no point's of the right bank")

    def pair_again(self):
        """Make the pairing a largest one, where it lacks one pair at most."""
        # One rope that comes or goes changes how many pairs there can be by one at most.
        unpaired = points_besides(self.left, self.right_of)
        pair_once_more(self.neighbours, unpaired, self.right_of, self.left_of)


def answer_of(story, deed):
    """Do the deed; what it is answered with where it isn't refused."""
    if deed[0] == "tie":
        return story.tie(deed[1], deed[2])
    if deed[0] == "loosen":
        return story.loosen(deed[1], deed[2])
    return story.look()


def answer_or_text(story, deed):
    """Do the deed; what it is answered with, a text where it is refused."""
    try:
        return answer_of(story, deed)
    except NoPoint:
        return "no point"
    except NoRope:
        return "no rope"


def answers(left, right, deeds):
    """The answers of a story with these deeds, a list."""
    story = Story(left, right)
    return [answer_or_text(story, deed) for deed in deeds]
