"""How the calls lie in the list that is handed in."""

# The call's number, then how many whole numbers and how many lists it has.
SHAPES = {
    0: (1, 2),
    1: (0, 0),
    2: (3, 0),
    3: (0, 0),
    4: (3, 0),
    5: (0, 0),
    6: (1, 0),
    7: (1, 0),
    8: (1, 0),
    9: (2, 0),
    10: (0, 1),
    11: (0, 1),
    12: (1, 1),
    13: (1, 1),
    14: (1, 0),
    15: (2, 0),
    16: (2, 0),
    17: (0, 1),
    18: (0, 0),
}


class Call:
    """One call: its number, its whole numbers and its lists."""

    def __init__(self, number, wholes, rows):
        self.number = number
        self.wholes = wholes
        self.rows = rows


class Reader:
    """Takes call after call from the list; the list itself stays as it is."""

    def __init__(self, numbers):
        self.numbers = numbers
        self.place = 0

    def is_done(self):
        return self.place >= len(self.numbers)

    def take_number(self):
        number = self.numbers[self.place]
        self.place = self.place + 1
        return number

    def take_row(self, size):
        row = self.numbers[self.place:self.place + size]
        self.place = self.place + size
        return row

    def take_call(self):
        number = self.take_number()
        shape = SHAPES[number]
        wholes = self.take_row(shape[0])
        rows = []
        while len(rows) < shape[1]:
            size = self.take_number()
            rows.append(self.take_row(size))
        return Call(number, wholes, rows)
