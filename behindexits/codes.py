"""Codes: programs as rows of steps, each of which tells the indexes of the rows that can follow it.

A run keeps its integers in a list of numbers. Index 0 has 0, the inputs follow, and each name that is set has an
index; so has what a try or a loop has to remember. A name that is known somewhere was set last on the way to there. So
numbers that are forgotten may as well be kept, and one index serves all turns of a loop.

An exit (r, v, at) tells what is done with a way that goes out: the way is kept at the index r, the value of the error
at the index v, and the row at the index `at` follows. SPARE is an index that nothing looks at.

The rows are these. The number behind the word tells whether the row begins a step.

- ("set", 1, x, i, number, next), ("if", 1, i, j, number, yes, no), ("ask", 1, i, j, number, next, r, way, v, at),
  ("raise", 1, i, number, r, way, v, at), ("read", 1, place, x, next), ("choose", 1, place, yes, no).
- ("go", 1, next): a try.
- ("way", 0 or 1, r, way, next): an out, a leave, an again, or the end of the parts before an always part.
- ("for", 1, x, i, m, j, k, h, next), ("turn", 0, x, h, body, other): a loop, which keeps its high value at h; before
  its first turn it is as behind one that has passed.
- ("bare", 1, i, m, j, k, other): a loop without a body, all turns of which are counted at once.
- ("last", 0, r, v, exits): behind an always part; exits is a dict from ways to exits.
- ("stop", 0, way, values): the end of the run; values is a dict from names to indexes.
"""

from behindexits.flows import AGAIN, END, LEAVE, first_fit
from behindexits.forms import blocks_of

SPARE = 1


class Code:
    """The code of a program with these inputs, block and flow.

    It has the listing of the rows, the index of the first one, and how many numbers a run needs.
    """

    def __init__(self, inputs, block, flow):
        self.inputs = inputs
        self.flow = flow
        self.indexes = {"": 0}
        for at, name in enumerate(inputs):
            self.indexes[name] = 2 + at
        self.error = 2 + len(inputs)
        self.many = 3 + len(inputs)
        self.listing = []
        self.stops = {}
        end = self.stop(END) if END in flow else None
        self.first = self.block_row(block, (), end, None)

    def new_index(self):
        self.many += 1
        return self.many - 1

    def index_of(self, name):
        if name not in self.indexes:
            self.indexes[name] = self.new_index()
        return self.indexes[name]

    def put_row(self, row):
        self.listing.append(row)
        return len(self.listing) - 1

    def point(self, value):
        term, number = value
        return (self.index_of(term), number)

    def stop(self, way):
        """The row where runs end by a way."""
        if way not in self.stops:
            names = self.inputs if way[0] == "raise" else self.flow.get(way, ())
            values = {name: self.index_of(name) for name in names}
            if way[0] == "raise":
                values["value"] = self.error
            self.stops[way] = self.put_row(("stop", 0, way, values))
        return self.stops[way]

    def exit_of(self, way, context):
        """The exit for a way out of the frames of a context: pairs (frame, context) from within to without, or None."""
        if context is None:
            return (SPARE, self.error, self.stop(way))
        frame, around = context
        if frame[0] == "loop" and way in (LEAVE, AGAIN):
            return (SPARE, SPARE, frame[1] if way == LEAVE else frame[2])
        if frame[0] == "try" and way[0] == "raise":
            word, handlers, firsts = frame
            at = first_fit(handlers, way[1])
            if at is not None:
                name = handlers[at][1]
                return (SPARE, SPARE if name is None else self.index_of(name), firsts[at])
        if frame[0] == "last":
            word, r, v, first, exits = frame
            exits[way] = self.exit_of(way, around)
            return (r, v, first)
        return self.exit_of(way, around)

    def block_row(self, block, before, behind, context):
        """The first row of a block, behind which comes the row behind."""
        for index in reversed(range(len(block))):
            behind = self.statement_row(block[index], before + (index,), behind, context)
        return behind

    def statement_row(self, statement, place, behind, context):
        word = statement[0]
        if word == "set":
            return self.put_row((word, 1, self.index_of(statement[1])) + self.point(statement[2]) + (behind,))
        if word == "read":
            return self.put_row((word, 1, place, self.index_of(statement[1]), behind))
        if word in ("if", "choose"):
            return self.fork_row(statement, place, behind, context)
        if word == "for":
            return self.loop_row(statement, place, behind, context)
        if word == "try":
            return self.try_row(statement, place, behind, context)
        if word in ("ask", "raise"):
            way = ("raise", statement[2] if word == "ask" else statement[1])
            r, v, at = self.exit_of(way, context)
            head = self.literal(statement[1]) + (behind,) if word == "ask" else self.point(statement[2])
            return self.put_row((word, 1) + head + (r, way, v, at))
        # An out, a leave and an again are written like their ways.
        r, v, at = self.exit_of(statement, context)
        return self.put_row(("way", 1, r, statement, at))

    def literal(self, literal):
        left, right, number = literal
        return (self.index_of(left), self.index_of(right), number)

    def fork_row(self, statement, place, behind, context):
        blocks = blocks_of(statement)
        yes = self.block_row(blocks[0], place + (0,), behind, context)
        no = self.block_row(blocks[1], place + (1,), behind, context)
        if statement[0] == "choose":
            return self.put_row(("choose", 1, place, yes, no))
        return self.put_row(("if", 1) + self.literal(statement[1]) + (yes, no))

    def loop_row(self, statement, place, behind, context):
        word, name, low, high, body, other = statement
        ends = self.point(low) + self.point(high)
        rest = self.block_row(other, place + (1,), behind, context)
        if not body:
            return self.put_row(("bare", 1) + ends + (rest,))
        x = self.index_of(name)
        h = self.new_index()
        # What ends in the body goes on with this row, which needs to know the first row of the body.
        turn = self.put_row(None)
        first = self.block_row(body, place + (0,), turn, (("loop", behind, turn), context))
        self.listing[turn] = ("turn", 0, x, h, first, rest)
        return self.put_row(("for", 1, x) + ends + (h, turn))

    def try_row(self, statement, place, behind, context):
        word, block, handlers, other, always = statement
        if always:
            r = self.new_index()
            v = self.new_index()
            exits = {END: (SPARE, SPARE, behind)}
            last = self.put_row(("last", 0, r, v, exits))
            first = self.block_row(always, place + (2 + len(handlers),), last, context)
            context = (("last", r, v, first, exits), context)
            behind = self.put_row(("way", 0, r, END, first))
        rest = self.block_row(other, place + (1 + len(handlers),), behind, context)
        firsts = []
        for at, (kinds, name, inner) in enumerate(handlers):
            firsts.append(self.block_row(inner, place + (1 + at,), behind, context))
        frame = ("try", handlers, tuple(firsts))
        return self.put_row(("go", 1, self.block_row(block, place + (0,), rest, (frame, context))))
