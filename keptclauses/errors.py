"""What the program refuses, one class for each kind of refusal."""


class KeptError(ValueError):
    """Any refusal but those told apart."""


class NoMeeting(KeptError):
    """Two clauses that don't meet in a thing."""

    def __init__(self, thing):
        super().__init__("these clauses don't meet in this thing")
        self.thing = thing


class NoRows(KeptError):
    """What are no rows; number is that of the first row that is none, or None."""

    def __init__(self, number):
        super().__init__("these are no rows")
        self.number = number


class NoClauses(KeptError):
    """What is no list of clauses; number is that of the first that is none, or None."""

    def __init__(self, number):
        super().__init__("these are no clauses of the boxes")
        self.number = number


class NotKept(KeptError):
    """Clauses that are not kept or don't bar harm; failing is what fails first."""

    def __init__(self, failing):
        super().__init__("these clauses are not kept, or don't bar harm")
        self.failing = failing


class NotLean(KeptError):
    """Clauses of which one, or a sign of one, can be left out."""

    def __init__(self, number, sign):
        super().__init__("these clauses are not lean")
        self.number = number
        self.sign = sign


class NoMachine(KeptError):
    """What is no machine: the first part that is not so, and which thing in it, or None."""

    def __init__(self, part, number):
        super().__init__("this is no machine")
        self.part = part
        self.number = number


class NoWires(KeptError):
    """What are no wires; part tells whose inputs they are."""

    def __init__(self, part):
        super().__init__("these are no wires")
        self.part = part


class NoDeeds(KeptError):
    """Deeds of which one is refused; number is which one, or None."""

    def __init__(self, number):
        super().__init__("these deeds can't be done together")
        self.number = number


class NoText(KeptError):
    """What is no machine's text; row is the first row that can't stand there."""

    def __init__(self, row):
        super().__init__("this is no text of a machine")
        self.row = row


class NoClause(KeptError):
    """What is no clause."""


class NoSigns(KeptError):
    """What are no signs of unlike things."""


class NoStand(KeptError):
    """What is no stand."""


class NoWord(KeptError):
    """What is no word, or may not come."""


class NoRun(KeptError):
    """What is no run."""


class NoWish(KeptError):
    """What is no wish."""


class NoPromises(KeptError):
    """Promises that can't all hold, or are too many."""


class NoChange(KeptError):
    """What can't be taken back."""


class NoLine(KeptError):
    """What is no row for a desk."""


class NoNumber(ArithmeticError):
    """What is no number of the kind that is due."""


class TooMany(OverflowError):
    """More than there may be; size is how many."""

    def __init__(self, size):
        super().__init__("this is too many")
        self.size = size


class NoGate(IndexError):
    """What is no number of a gate."""


class NoBox(IndexError):
    """What is no box."""


class NoName(KeyError):
    """What is no name, or stands there not."""


class NoKept(LookupError):
    """A name by which nothing is kept."""
