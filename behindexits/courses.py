"""Courses: runs of programs along their codes, each up to where it needs an answer or has ended."""

from behindexits.errors import TooLong


class Course:
    """A run that may take so many steps. It has an end, or else a word and a place that needs an answer."""

    def __init__(self, code, numbers, most):
        """A run that has not begun yet."""
        self.code = code
        self.numbers = numbers
        self.most = most
        self.at = code.first
        self.steps = 0
        self.word = None
        self.place = None
        self.end = None

    def copied(self):
        other = Course(self.code, list(self.numbers), self.most)
        other.at = self.at
        other.steps = self.steps
        return other

    def go_on(self):
        """Go on to where an answer is needed, or to the end of the run."""
        self.at, self.steps = gone_on(self.code.listing, self.numbers, self.at, self.steps, self.most)
        row = self.code.listing[self.at]
        if row[0] == "stop":
            word, count, way, values = row
            self.end = (way, values)
        else:
            self.word = row[0]
            self.place = row[2]

    def take(self, answer):
        """Take the answer that is needed, and go on."""
        row = self.code.listing[self.at]
        if row[0] == "read":
            self.numbers[row[3]] = answer
            self.at = row[4]
        else:
            self.at = row[3] if answer == 0 else row[4]
        self.go_on()

    def told(self):
        """The way and the values of a run that has ended."""
        way, values = self.end
        return (way, {name: self.numbers[values[name]] for name in values})


def gone_on(rows, numbers, at, steps, most):
    """The row where a run stops that goes on from the row at an index with these numbers, and the steps till then."""
    while True:
        row = rows[at]
        word = row[0]
        steps += row[1]
        if steps > most:
            raise TooLong()
        if word == "turn":
            at = row[5]
            if numbers[row[2]] + 1 < numbers[row[3]]:
                steps += 1
                numbers[row[2]] += 1
                at = row[4]
        elif word == "if":
            at = row[5] if numbers[row[2]] <= numbers[row[3]] + row[4] else row[6]
        elif word == "set":
            numbers[row[2]] = numbers[row[3]] + row[4]
            at = row[5]
        elif word == "ask":
            holding = numbers[row[2]] <= numbers[row[3]] + row[4]
            at = row[5] if holding else failed(numbers, row[6:], 0)
        elif word == "way":
            numbers[row[2]] = row[3]
            at = row[4]
        elif word == "for":
            numbers[row[2]] = numbers[row[3]] + row[4] - 1
            numbers[row[7]] = numbers[row[5]] + row[6]
            at = row[8]
        elif word == "go":
            at = row[2]
        elif word in ("read", "choose", "stop"):
            return (at, steps)
        elif word == "raise":
            at = failed(numbers, row[4:], numbers[row[2]] + row[3])
        elif word == "bare":
            steps += turns(numbers, row)
            at = row[6]
        else:
            at = resumed(numbers, row)


def failed(numbers, leaving, number):
    """Raise an error with a value; the row that follows."""
    r, way, v, at = leaving
    numbers[r] = way
    numbers[v] = number
    return at


def turns(numbers, row):
    """How many turns a loop without a body has."""
    word, count, i, m, j, k, other = row
    many = numbers[j] + k - numbers[i] - m
    return many if many > 0 else 0


def resumed(numbers, row):
    """Go on behind an always part by the way that was kept; the row that follows."""
    word, count, r, v, exits = row
    way = numbers[r]
    outer, value, at = exits[way]
    numbers[outer] = way
    numbers[value] = numbers[v]
    return at
