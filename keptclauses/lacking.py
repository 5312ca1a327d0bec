"""Beats in a row that lack a sign: from which stands there can be how many, and where they never end."""

from keptclauses.tables import places
from keptclauses.walking import words_along


class Lacks:
    """Of each stand, where a beat that lacks a sign leads from it, and how many such beats in a row there can be.

    In shorter, the stands of number k are those from which at most k beats in a row lack the sign; endless are those
    that stand in none of these.
    """

    def __init__(self, table, sign):
        self.table = table
        self.lack_where = table.where[-sign]
        self.ends = [self.ends_of(number) for number in range(table.width)]
        self.shorter = [table.barring(sign)]
        self.endless = table.everywhere ^ self.shorter[0]
        self.reckon()

    def lacking_steps(self, number):
        """The words by which a beat from a stand lacks the sign, by their numbers, and where it leads."""
        bits = self.lack_where >> number
        steps = self.table.steps(number)
        return [(word, end) for word, end in enumerate(steps) if bits >> (word * self.table.width) & 1]

    def ends_of(self, number):
        """The stands to which beats from a stand lead that lack the sign."""
        bits = 0
        for word, end in self.lacking_steps(number):
            bits |= 1 << end
        return bits

    def reckon(self):
        """Take from the endless stands, time by time, those from which such a beat leads to no endless one."""
        fresh = self.ending()
        while fresh:
            self.endless ^= fresh
            self.shorter.append(self.shorter[-1] | fresh)
            fresh = self.ending()

    def ending(self):
        """Those of the endless stands from which a beat that lacks the sign leads to no endless one."""
        bits = 0
        for number in places(self.endless):
            if not self.ends[number] & self.endless:
                bits |= 1 << number
        return bits

    def led_to(self, stands):
        """The stands to which beats from some of these lead that lack the sign."""
        bits = 0
        for number in places(stands):
            bits |= self.ends[number]
        return bits

    def longest(self, stands):
        """How many beats in a row, at most, lack the sign from one of these stands, none of which is endless."""
        many = 0
        while stands & ~self.shorter[many]:
            many += 1
        return many


def harming_round(lacks, way):
    """The round that goes a way to an endless stand, and from there on lacks the sign without end."""
    words = words_along(lacks.table, way)
    # Ahead of its last stand the way has no endless one: so it is closed by one of those that come now.
    place = {}
    number = way[-1]
    while number not in place:
        place[number] = len(words)
        word, number = [step for step in lacks.lacking_steps(number) if lacks.endless >> step[1] & 1][0]
        words.append(lacks.table.coming[word])
    return lacks.table.stand(way[0]), words, place[number]
