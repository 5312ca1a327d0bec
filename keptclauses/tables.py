"""All stands and words of a machine at once, as numbers with a bit for each of them."""


def both_bits(one, other):
    return one & other


def either_bits(one, other):
    return one | other


def odd_bits(one, other):
    return one ^ other


GATE_BITS = {"and": both_bits, "or": either_bits, "odd": odd_bits}


def lowest(bits):
    """The place of the lowest bit."""
    return (bits & -bits).bit_length() - 1


def places(bits):
    """The places of all bits, rising."""
    told = []
    while bits:
        told.append(lowest(bits))
        bits &= bits - 1
    return told


def bit_total(bits):
    """How many bits there are."""
    return f"{bits:b}".count("1")


def column(boxes, box):
    """The numbers of all stands in which a box, from 1 on, is."""
    # Box 1 is the highest bit of a stand's number: so the numbers are sorted as the stands are.
    half = 1 << (boxes - box)
    bits = ((1 << half) - 1) << half
    width = 2 * half
    while width < 1 << boxes:
        bits |= bits << width
        width *= 2
    return bits


def thing_bits(machine, words):
    """For each thing, where it is: a bit for each stand, word by word, the first word lowest."""
    width = 1 << machine.boxes()
    once = [1 << (width * number) for number in range(len(words))]
    told = [column(machine.boxes(), box) * sum(once) for box in range(1, machine.boxes() + 1)]
    for place in range(machine.inputs()):
        ones = sum([bit for bit, word in zip(once, words) if word[place]])
        told.append(ones * ((1 << width) - 1))
    whole = sum(once) * ((1 << width) - 1)
    for word, one, other in machine.gates():
        reckon = GATE_BITS[word]
        told.append(reckon(sign_bits(told, one, whole), sign_bits(told, other, whole)))
    return told


def sign_bits(columns, sign, whole):
    """Where a sign holds."""
    bits = columns[abs(sign) - 1]
    return bits if sign > 0 else whole ^ bits


class Table:
    """A machine's stands, numbered as they are sorted; a set of them is a number with a bit for each.

    What hangs on a word, too, has such bits word by word, for those words that may come.
    """

    def __init__(self, machine):
        boxes = machine.boxes()
        self.box_total = boxes
        self.coming = machine.words()
        self.width = 1 << boxes
        self.everywhere = (1 << self.width) - 1
        columns = thing_bits(machine, self.coming)
        self.whole = (1 << (self.width * len(self.coming))) - 1
        self.where = {}
        for thing in range(1, len(machine) + 1):
            self.where[thing] = columns[thing - 1]
            self.where[-thing] = self.whole ^ columns[thing - 1]
        self.next_where = {}
        for box, sign in enumerate(machine.nexts(), start=1):
            self.next_where[box] = self.where[sign]
            self.next_where[-box] = self.where[-sign]
        self.start_tuple = tuple(machine.starts())
        self.held = {}
        self.led = {}
        self.stepped_to = {}

    def begun(self):
        """The beginnings."""
        bits = self.everywhere
        for sign in self.start_tuple:
            bits &= self.where[sign]
        return bits

    def begins(self, clause):
        """Whether a clause holds at each beginning."""
        # A beginning says the starts and nothing else: so only a sign of theirs holds at each of them.
        return any([sign in self.start_tuple for sign in clause])

    def holding(self, clause):
        """The stands at which a clause holds."""
        if clause not in self.held:
            bits = 0
            for sign in clause:
                bits |= self.where[sign]
            self.held[clause] = bits & self.everywhere
        return self.held[clause]

    def holding_all(self, clauses):
        """The stands at which all these clauses hold."""
        bits = self.everywhere
        for clause in clauses:
            bits &= self.holding(clause)
        return bits

    def behind_where(self, clause):
        """Where, word by word, a clause holds behind the beat."""
        bits = 0
        for sign in clause:
            bits |= self.next_where[sign]
        return bits

    def by_each_word(self, bits):
        """The stands that have a bit for each word."""
        told = self.everywhere
        for number in range(len(self.coming)):
            told &= bits >> (number * self.width)
        return told

    def leading(self, clause):
        """The stands that lead, by each word, to stands at which a clause holds."""
        if clause not in self.led:
            self.led[clause] = self.by_each_word(self.behind_where(clause))
        return self.led[clause]

    def barring(self, sign):
        """The stands by which, with each word, a sign holds."""
        return self.by_each_word(self.where[sign])

    def lacking_word(self, bits, number):
        """The number of the first word for which a stand has no bit."""
        return lowest((self.whole ^ bits) >> number & self.first_stand()) // self.width

    def first_stand(self):
        """A bit for the first stand, for each word."""
        return self.whole // self.everywhere

    def stand(self, number):
        """The stand with a number."""
        return tuple([number >> place & 1 == 1 for place in range(self.box_total - 1, -1, -1)])

    def steps(self, number):
        """The numbers of the stands behind a beat from a stand, one for each word."""
        if number not in self.stepped_to:
            ends = [0] * len(self.coming)
            for box in range(1, self.box_total + 1):
                bits = self.next_where[box] >> number
                for place in range(len(ends)):
                    ends[place] = 2 * ends[place] + (bits >> (place * self.width) & 1)
            self.stepped_to[number] = tuple(ends)
        return self.stepped_to[number]
