"""How the calls stand one behind another in one list of whole numbers."""

# By a call's number: how many whole numbers it has, and how many lists.
SHAPES = {
    0: (0, 1),
    1: (0, 0),
    2: (0, 1),
    3: (0, 0),
    4: (1, 0),
    5: (2, 0),
    6: (0, 1),
    7: (1, 0),
    8: (1, 0),
    9: (3, 0),
    10: (2, 0),
    11: (3, 0),
    12: (1, 0),
    13: (2, 0),
    14: (0, 2),
    15: (3, 0),
    16: (3, 0),
}


class Reader:
    """A place in a list of whole numbers, which only moves on."""

    def __init__(self, numbers):
        self.numbers = numbers
        self.place = 0

    def is_at_end(self):
        return self.place >= len(self.numbers)

    def take(self, amount):
        """The next numbers, as a list of their own."""
        taken = self.numbers[self.place:self.place + amount]
        self.place += len(taken)
        return taken


def shape_of(number):
    """How many whole numbers and how many lists the call of this number has."""
    return SHAPES.get(number, (0, 0))


def read_call(reader):
    """The rows of the next call: its number with its whole numbers, then each of its lists."""
    head = reader.take(1)
    shape = shape_of(head[0])
    rows = [head + reader.take(shape[0])]
    for step in range(shape[1]):
        amount = reader.take(1)[0]
        rows.append(reader.take(amount))
    return rows


def read_calls(numbers):
    """All calls in order, each as its rows."""
    reader = Reader(numbers)
    calls = []
    while not reader.is_at_end():
        calls.append(read_call(reader))
    return calls
