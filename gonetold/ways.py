"""Ways that go on by letters from place to place, and how long they can be."""


class Ways:
    """The ways from place to place.

    ahead has for each place a dict of the places to which letters lead it; height for each place from which no way goes
    on for ever how many letters the longest one has.
    """

    def __init__(self, ahead):
        self.ahead = ahead
        self.height = heights(ahead)

    def has_way(self, place, many):
        """Tell whether a way of so many letters goes on from place."""
        return place not in self.height or self.height[place] >= many

    def way_of(self, place, many):
        """Return the word of a way of so many letters that goes on from place."""
        word = []
        for left in reversed(range(many)):
            letter = min([own for own, target in self.ahead[place].items() if self.has_way(target, left)])
            word.append(letter)
            place = self.ahead[place][letter]
        return tuple(word)


def heights(ahead):
    """Return for each place from which no way goes on for ever how many letters the longest way from it has."""
    behind = {place: [] for place in ahead}
    for place in ahead:
        for target in ahead[place].values():
            behind[target].append(place)
    left = {place: len(ahead[place]) for place in ahead}
    ready = [place for place in ahead if left[place] == 0]
    height = {}
    while ready:
        place = ready.pop()
        height[place] = max([height[target] + 1 for target in ahead[place].values()], default=0)
        for own in behind[place]:
            left[own] -= 1
            if left[own] == 0:
                ready.append(own)
    return height
