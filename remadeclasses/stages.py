"""Stages: what stands behind each of them, when its steps were run in order.

A class is the pair (c, number) everywhere, a place the triple (stage, step, part).
"""

from remadeclasses.orders import orders_of


class Part:
    """A part that a step put into the class home."""

    def __init__(self, row, home, place):
        self.row = row
        self.n = row[0]
        self.does = row[1] == "does"
        self.looks = row[1] == "looks"
        self.what = row[2]
        self.home = home
        self.place = place


class State:
    """The classes that there are, and what came of the steps of a stage."""

    def __init__(self):
        # The number of the class to which each word is bound.
        self.names = {}
        # Of all classes made so far, in the order in which they were made.
        self.bases = {}
        self.orders = {}
        self.parts = {}
        # All parts that were ever put, by their places: outsiders may hold their
        # bodies when the classes have them no longer.
        self.placed = {}
        self.seen = {}
        # What the steps of this stage do to the things: see moved.
        self.moves = []
        self.ran = 0

    def bound(self, c):
        """The class to which a bound word is bound."""
        return c, self.names[c]

    def found(self, row, n):
        """The part n of the first class of the row that has one, or None."""
        for klass in row:
            if n in self.parts[klass]:
                return self.parts[klass][n]
        return None

    def kin_of(self, klass):
        """All classes that are kin to the class."""
        return tuple([one for one in self.orders if klass in self.orders[one]])

    def put(self, part):
        """Put the part into its class, in the place of one with the same word."""
        self.parts[part.home][part.n] = part
        self.placed[part.place] = part


def states_of(script):
    """What stands behind each stage: a list of states."""
    states = []
    state = State()
    for k, stage in enumerate(script[2]):
        state = state_ahead_of_steps(state)
        run_stage(state, k, stage)
        states.append(state)
    return states


def state_ahead_of_steps(ahead):
    """The state in which the steps of a stage begin, behind another stage."""
    state = State()
    state.names = dict(ahead.names)
    state.bases = {klass: ahead.bases[klass] for klass in ahead.bases}
    state.orders = {klass: ahead.orders[klass] for klass in ahead.orders}
    state.parts = {klass: dict(ahead.parts[klass]) for klass in ahead.parts}
    state.placed = {place: ahead.placed[place] for place in ahead.placed}
    state.seen = {klass: True for klass in ahead.seen}
    return state


def run_stage(state, k, steps):
    """Run the steps of stage k up to one that fails."""
    for s, step in enumerate(steps):
        if not run_step(state, step, (k, s)):
            break
        state.ran += 1
    for c in state.names:
        state.seen[state.bound(c)] = True


def run_step(state, step, place):
    """Run one step; tells whether it did not fail. place is (stage, step)."""
    if step[0] != "class" and step[1] not in state.names:
        return False
    action = STEP_ACTIONS[step[0]]
    return action(state, step, place)


def run_class(state, step, place):
    """Make a new class and bind its name to it."""
    _, c, words, rows = step
    klass = (c, len([one for one in state.bases if one[0] == c]))
    if not rebased(state, klass, words):
        return False
    state.names[c] = klass[1]
    state.parts[klass] = {}
    for p, row in enumerate(rows):
        state.put(Part(row, klass, place + (p,)))
    return True


def run_rebase(state, step, _):
    """Give the class other bases."""
    klass = state.bound(step[1])
    for word in step[2]:
        if word in state.names and klass in state.orders[state.bound(word)]:
            return False
    return rebased(state, klass, step[2])


def rebased(state, klass, words):
    """Give a new class or one made before these bases; tells whether that is right.

    None of the bases is kin to the class.
    """
    if len(set(words)) < len(words) or not all([word in state.names for word in words]):
        return False
    bases = {one: state.bases[one] for one in state.bases}
    bases[klass] = tuple([state.bound(word) for word in words])
    orders = orders_of(bases)
    if orders is None:
        return False
    state.bases = bases
    state.orders = orders
    return True


def run_part(state, step, place):
    """Put one part into the class."""
    state.put(Part(step[2], state.bound(step[1]), place + (0,)))
    return True


def run_cut(state, step, _):
    """Take a part out of the class itself."""
    parts = state.parts[state.bound(step[1])]
    if step[2] not in parts:
        return False
    del parts[step[2]]
    return True


def run_forget(state, step, _):
    """Unbind the word."""
    del state.names[step[1]]
    return True


def run_lead(state, step, _):
    """Things of the elder classes of the name become things of the class."""
    klass = state.bound(step[1])
    # The bound one is always the last that was made under its name.
    elder = tuple([(step[1], number) for number in range(klass[1])])
    state.moves.append(("lead", elder, klass))
    return True


def run_fill(state, step, _):
    """Things that are kin to the class get an own field that they have not."""
    state.moves.append(("fill", state.kin_of(state.bound(step[1])), step[2], step[3]))
    return True


def run_clear(state, step, _):
    """The own field of things that are kin to the class goes."""
    state.moves.append(("clear", state.kin_of(state.bound(step[1])), step[2]))
    return True


STEP_ACTIONS = {
    "class": run_class,
    "part": run_part,
    "cut": run_cut,
    "forget": run_forget,
    "lead": run_lead,
    "rebase": run_rebase,
    "fill": run_fill,
    "clear": run_clear,
}


def moved(standing, moves):
    """The standing of a thing when the steps of a stage have moved it.

    A move names the classes whose things it moves: who is kin to whom may be
    otherwise behind the next step.
    """
    c, number, told = standing
    fields = dict(told)
    for move in moves:
        if (c, number) in move[1]:
            if move[0] == "lead":
                c, number = move[2]
            elif move[0] == "fill":
                fields.setdefault(move[2], move[3])
            elif move[2] in fields:
                del fields[move[2]]
    return standing_of((c, number), fields)


def standing_of(klass, fields):
    """The standing of a thing of the class that has these own fields."""
    return klass + (tuple(sorted(fields.items())),)
