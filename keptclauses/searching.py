"""The search for the least filling of clauses, and for rows against it where there is none."""


class Search:
    """A search over some clauses; a solver begins one for each ask, so no answer hangs on what was asked before.

    A clause is kept as a mask with one bit for each sign, so that one step tells which of its signs are left.
    The signs that were said stand on a trail; a mark on it begins each level, with the sign that was tried there.
    """

    def __init__(self, many, clauses):
        self.most = many
        signs = [sign for sign in range(-many, many + 1) if sign != 0]
        self.bits = {sign: 1 << (sign + many) for sign in signs}
        self.having = {sign: [] for sign in signs}
        self.masks = []
        self.chains = {}
        self.said = 0
        self.free = sum([self.bits[sign] for sign in signs])
        self.trail = []
        self.looked = 0
        self.marks = []
        self.levels = [0] * (many + 1)
        self.reasons = [None] * (many + 1)
        self.is_new = True
        self.broken = None
        for clause in clauses:
            self.keep(clause)

    def keep(self, signs):
        """Keep a clause, and tell its number."""
        number = len(self.masks)
        mask = 0
        for sign in signs:
            mask |= self.bits[sign]
            self.having[sign].append(number)
        self.masks.append(mask)
        return number

    def sign_of(self, bit):
        return bit.bit_length() - 1 - self.most

    def signs_in(self, mask):
        """The signs of a mask."""
        signs = []
        while mask:
            bit = mask & -mask
            signs.append(self.sign_of(bit))
            mask ^= bit
        return signs

    def say(self, sign, reason):
        """Say a sign, because of the clause with the number reason, or, where that is None, as a try."""
        self.said |= self.bits[sign]
        self.free ^= self.bits[-sign]
        self.trail.append(sign)
        self.levels[abs(sign)] = len(self.marks)
        self.reasons[abs(sign)] = reason

    def unsay(self, level):
        """Take back all signs above a level."""
        start = self.marks[level]
        for sign in self.trail[start:]:
            self.said ^= self.bits[sign]
            self.free |= self.bits[-sign]
        del self.trail[start:]
        del self.marks[level:]
        self.looked = start

    def looked_at(self, numbers):
        """Say the sign of each of these clauses that has one left; tell the first that has none left, or None."""
        for number in numbers:
            mask = self.masks[number]
            if mask & self.said:
                continue
            left = mask & self.free
            if not left:
                return number
            if not left & (left - 1):
                self.say(self.sign_of(left), number)
        return None

    def spread(self):
        """Say all that follows clause by clause; tell the number of a clause that has no sign left, or None."""
        while self.looked < len(self.trail):
            sign = self.trail[self.looked]
            self.looked += 1
            number = self.looked_at(self.having[-sign])
            if number is not None:
                return number
        return None

    def begin(self):
        """Take back all tries and say what follows without any; tell a clause that has no sign left, or None."""
        if self.marks:
            self.unsay(0)
        if self.is_new:
            self.is_new = False
            self.broken = self.looked_at(list(range(len(self.masks))))
        if self.broken is None:
            self.broken = self.spread()
        return self.broken

    def tried(self, sign):
        """Try a sign and say what follows; tell the number of a clause that has no sign left, or None."""
        self.marks.append(len(self.trail))
        self.say(sign, None)
        return self.spread()

    def wanted(self, under):
        """The sign to try next: one of under, else no to the first thing that is not filled; None if all are."""
        # Only no is ever tried, and of the first thing: what says yes follows from that, so the filling is the least.
        for sign in under:
            if not self.said & self.bits[sign]:
                return sign
        for thing in range(1, self.most + 1):
            if not self.said & (self.bits[thing] | self.bits[-thing]):
                return -thing
        return None

    def denies(self, sign):
        return not self.free & self.bits[sign]

    def is_bound(self, under):
        """Whether all signs that are tried are some of under."""
        return not self.marks or self.trail[self.marks[-1]] in under

    def stepped(self, mask, sign):
        """What a clause and the reason for sign, which it has turned about, meet in."""
        reason = self.masks[self.reasons[abs(sign)]]
        return (mask ^ self.bits[-sign]) | (reason ^ self.bits[sign])

    def turned(self, number):
        """Learn from a clause with no sign left, go back as far as that tells, and go on; tells as spread does."""
        mask = self.masks[number]
        here = sum([self.bits[-sign] for sign in self.trail[self.marks[-1]:]])
        steps = []
        for sign in reversed(self.trail):
            left = mask & here
            # With one sign of this level left the clause says that sign on a level ahead: no need to go further.
            if not left & (left - 1):
                break
            if mask & self.bits[-sign]:
                mask = self.stepped(mask, sign)
                steps.append((sign, self.reasons[abs(sign)]))
        return self.gone_on(mask, mask & here, (number, steps))

    def gone_on(self, mask, left, chain):
        """Keep a learned clause, go back to the level on which it has but the sign left, and go on from there."""
        new = self.keep(self.signs_in(mask))
        self.chains[new] = chain
        levels = [self.levels[abs(sign)] for sign in self.signs_in(mask ^ left)]
        self.unsay(max(levels, default=0))
        self.say(self.sign_of(left), new)
        return self.spread()

    def refusal(self, number, under):
        """The answer no, out of a clause all of whose other signs follow from signs of under."""
        mask = self.masks[number]
        steps = []
        for sign in reversed(self.trail):
            reason = self.reasons[abs(sign)]
            if reason is not None and mask & self.bits[-sign]:
                mask = self.stepped(mask, sign)
                steps.append((sign, reason))
        some = [sign for sign in under if mask & self.bits[-sign]]
        return "no", some, rows_to(self.chains, (number, steps))

    def least(self):
        """The filling, once all things are filled."""
        return tuple([self.said & self.bits[thing] != 0 for thing in range(1, self.most + 1)])


def needed(chains, chain):
    """The numbers of all clauses out of which a chain comes, rising."""
    found = {}
    todo = [chain]
    while todo:
        start, steps = todo.pop()
        for number in [start] + [reason for sign, reason in steps]:
            if number not in found:
                found[number] = True
                if number in chains:
                    todo.append(chains[number])
    return sorted(found)


def chain_rows(chain, places, at):
    """The rows of a chain, the first of which has the place at; places tells the rows of the clauses ahead."""
    start, steps = chain
    rows = []
    place = places[start]
    for sign, reason in steps:
        if sign > 0:
            rows.append(("met", places[reason], place, sign))
        else:
            rows.append(("met", place, places[reason], -sign))
        place = at + len(rows) - 1
    return rows


def rows_to(chains, chain):
    """Rows whose last clause is that of a chain."""
    rows = []
    places = {}
    for number in needed(chains, chain):
        if number in chains:
            rows.extend(chain_rows(chains[number], places, len(rows)))
        else:
            rows.append(("told", number))
        places[number] = len(rows) - 1
    # A learned clause has a higher number than those it comes out of: so a chain without steps ends with its start.
    return rows + chain_rows(chain, places, len(rows))


def answered(search, under):
    """The answer to an ask under some signs; what was learned serves the next ask of the same search."""
    number = search.begin()
    while True:
        if number is not None:
            if not search.marks:
                search.broken = number
            if search.is_bound(under):
                return search.refusal(number, under)
            number = search.turned(number)
            continue
        sign = search.wanted(under)
        if sign is None:
            return "yes", search.least()
        if search.denies(sign):
            return search.refusal(search.reasons[abs(sign)], under)
        number = search.tried(sign)


def searched(many, clauses, under):
    """The answer of a solver: the least filling under some signs, or rows against it."""
    return answered(Search(many, clauses), under)
