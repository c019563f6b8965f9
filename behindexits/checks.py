"""What makes a program invalid, found statement by statement in reading order."""

from behindexits.errors import BadProgram
from behindexits.flows import END, either_flow, loop_flow, simple_flow, try_flow, without_end
from behindexits.forms import blocks_of, handlers_of, has_shape, settings_of, statement_at, terms_of
from behindexits.words import are_names


class Check:
    """A walk through a program's block. It raises BadProgram if they are not those of a program.

    It keeps the settings that it has come by, as paths for each name, the names known before each statement, and the
    flow of the block.
    """

    def __init__(self, inputs, block):
        if not are_names(inputs):
            raise BadProgram((), "inputs")
        if not isinstance(block, tuple):
            raise BadProgram((), "form")
        self.inputs = inputs
        self.block = block
        self.settings = {}
        self.known = {}
        self.flow = self.block_flow(block, (), inputs, False)

    def block_flow(self, block, before, known, looped):
        """The flow of a block at whose begin the names are known, or that is not come to if known is None.

        The places of its statements begin with before; looped tells whether it stands in the body of a loop.
        """
        flow = {}
        for index, statement in enumerate(block):
            place = before + (index,)
            why = self.fault(statement, place, known, looped)
            if why is not None:
                raise BadProgram(place, why)
            self.note(statement, place)
            self.known[place] = known
            past = self.statement_flow(statement, place, known, looped)
            known = past.get(END)
            flow = either_flow(flow, without_end(past))
        if known is not None:
            flow[END] = known
        return flow

    def fault(self, statement, place, known, looped):
        """The word for what is wrong with a statement, but for what stands in its blocks, or None."""
        if not has_shape(statement):
            return "form"
        if known is None:
            return "dead"
        if self.sets_again(statement, place):
            return "name"
        for term in terms_of(statement):
            if term != "" and term not in known:
                return "term"
        if statement[0] in ("leave", "again") and not looped:
            return "loop"
        return None

    def sets_again(self, statement, place):
        for name, path in settings_of(statement, place):
            if name in self.inputs:
                return True
            for earlier in self.settings.get(name, []):
                if not are_apart(self.block, earlier, path):
                    return True
        return False

    def note(self, statement, place):
        for name, path in settings_of(statement, place):
            self.settings.setdefault(name, []).append(path)

    def statement_flow(self, statement, place, known, looped):
        if statement[0] == "for":
            body = self.block_flow(statement[4], place + (0,), known + (statement[1],), True)
            return loop_flow(body, self.block_flow(statement[5], place + (1,), known, looped))
        if statement[0] == "try":
            return try_flow(statement[2], self.try_flows(statement, place, known, looped))
        blocks = blocks_of(statement)
        if not blocks:
            return simple_flow(statement, known)
        yes = self.block_flow(blocks[0], place + (0,), known, looped)
        return either_flow(yes, self.block_flow(blocks[1], place + (1,), known, looped))

    def try_flows(self, statement, place, known, looped):
        """The flows of the blocks of a try, by their numbers."""
        word, block, handlers, other, always = statement
        flows = [self.block_flow(block, place + (0,), known, looped)]
        behind = flows[0].get(END)
        for kinds, name, inner in handlers:
            there = known if name is None else known + (name,)
            flows.append(self.block_flow(inner, place + (len(flows),), there, looped))
        flows.append(self.block_flow(other, place + (len(flows),), behind, looped))
        flows.append(self.block_flow(always, place + (len(flows),), known, looped))
        return flows


def are_apart(block, one, other):
    """Whether two settings at these paths are apart, so that no way through the block goes to both."""
    shared = 0
    while shared < len(one) and shared < len(other) and one[shared] == other[shared]:
        shared += 1
    if shared % 2 == 0:
        return False
    steps = one[shared:shared + 1] + other[shared:shared + 1]
    statement = statement_at(block, one[:shared])
    if statement[0] == "for":
        return 1 in steps
    if statement[0] == "try":
        # The handlers and the other part: the block may come before each of them, and the always part after.
        return all([1 <= number <= 1 + len(handlers_of(statement)) for number in steps])
    return True
