"""Walks over a machine's stands, beat by beat, from the beginnings on."""

from keptclauses.tables import lowest, places


class Walk:
    """The stands that are come to, beat by beat: each by its least beats, and from where it was come to first."""

    def __init__(self, table):
        self.table = table
        self.came_from = {}
        self.least_beats = {}
        self.newest = table.begun()
        self.within_beats = [self.newest]

    def seen(self):
        """All stands that were come to so far."""
        return self.within_beats[-1]

    def step(self):
        """Go on by a beat from the stands that are new."""
        seen = self.within_beats[-1]
        fresh = 0
        for number in places(self.newest):
            for end in self.table.steps(number):
                if not (seen | fresh) >> end & 1:
                    fresh |= 1 << end
                    self.came_from[end] = number
                    self.least_beats[end] = len(self.within_beats)
        self.newest = fresh
        self.within_beats.append(seen | fresh)

    def within(self, beats):
        """All stands that are come to within so many beats, once the walk is at its end."""
        return self.within_beats[min(beats, len(self.within_beats) - 1)]

    def kept_from(self, number, beats):
        """All stands that are come to within so many beats, or as many as can be without coming to that one.

        Of one that never is come to: all stands that ever are.
        """
        if number not in self.least_beats:
            return self.seen()
        return self.within(min(beats, self.least_beats[number] - 1))

    def until(self, aim):
        """Go on until a stand of these is come to, and tell the least of the first; None where none ever is."""
        while self.newest:
            if self.newest & aim:
                return lowest(self.newest & aim)
            self.step()
        return None

    def way_to(self, number):
        """The numbers of the stands from a beginning to a stand."""
        way = [number]
        while way[-1] in self.came_from:
            way.append(self.came_from[way[-1]])
        return way[::-1]


def words_along(table, way):
    """For each beat of a way the first word by which it goes so."""
    return [table.coming[table.steps(number).index(end)] for number, end in zip(way, way[1:])]


def harming_run(table, sign, way):
    """The run that goes a way to a stand by which harm can come, and does come."""
    word = table.lacking_word(table.where[sign], way[-1])
    return table.stand(way[0]), words_along(table, way) + [table.coming[word]]
