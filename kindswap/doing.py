"""What terms do to worths."""

from kindswap.sized import all_worths, place_of
from kindswap.steps import Steps


class Made:
    """A function that a term makes, with what is given to it by number, so far as it needs it."""

    def __init__(self, part, scope):
        self.part = part
        self.scope = scope
        # What it gave before, by the keys of what was handed to it.
        self.known = {}
        # It told out as a worth, None as long as it is not.
        self.worth = None


class Told:
    """A function that is told out as a worth of its sized kind."""

    def __init__(self, kind, worth):
        self.kind = kind
        self.worth = worth
        self.known = {}


def value_of(kind, worth):
    """The worth with its functions as Told, so that they can be handed what is only made."""
    # Without functions, what may be large is not gone through.
    if kind.most_taken == 0:
        return worth
    if kind.word == "from":
        return Told(kind, worth)
    one, other = worth
    return (value_of(kind.one, one), value_of(kind.other, other))


def key_of(values):
    """A tuple without tuples, for values of kinds that are always the same the same one."""
    found = []
    left = list(values)
    while left:
        value = left.pop()
        if type(value) is tuple:
            left.extend(value)
        else:
            found.append(value)
    return tuple(found)


class Doing(Steps):
    """Does terms to worths.

    What a function gave is kept, and a function that is made twice of the same things is one:
    else to do a thing twice, and that twice, and so on, would take powers of two of steps.
    """

    def __init__(self):
        Steps.__init__(self)
        # The functions by the keys of what they are made of.
        self.made = {}
        # By each kind that is taken its worths as values.
        self.taken = {}

    def result(self, part, takes, gives, worth):
        """The worth that a function gives for the worth, takes and gives being sized kinds."""
        self.left = [(self._tell, (gives,)), (self._join, ("do",)), (self._reckon, (part, {})),
                     (self._put, (value_of(takes, worth),))]
        return self.run()

    def _put(self, value):
        """Find what is there already."""
        self.found.append(value)

    def _reckon(self, part, scope):
        """Find the value of a term by what is given."""
        if part.word == "given":
            self.found.append(scope[part.number])
        elif part.word == "make":
            self.found.append(self._function(part, scope))
        elif part.word == "unit":
            self.found.append(())
        else:
            self.left.append((self._join, (part.word,)))
            for piece in part.parts:
                self.left.append((self._reckon, (piece, scope)))

    def _function(self, part, scope):
        """The function that the part makes of what is given."""
        needed = {number: scope[number] for number in part.needs}
        key = (part, *key_of(list(needed.values())))
        if key not in self.made:
            self.made[key] = Made(part, needed)
        return self.made[key]

    def _join(self, word):
        """Find the value of a term whose parts are found, the first one last."""
        one = self.found.pop()
        if word == "first":
            self.found.append(one[0])
        elif word == "second":
            self.found.append(one[1])
        elif word == "both":
            self.found.append((one, self.found.pop()))
        else:
            self._hand(one, self.found.pop())

    def _hand(self, function, value):
        """Find what the function gives for the value."""
        key = key_of([value])
        if key in function.known:
            self.found.append(function.known[key])
            return
        self.left.append((self._keep, (function, key)))
        if isinstance(function, Made):
            self.left.append((self._enter, (function, value)))
        else:
            self.left.append((self._look_up, (function,)))
            self.left.append((self._tell, (function.kind.one,)))
            self.left.append((self._put, (value,)))

    def _keep(self, function, key):
        """Keep what the function gave."""
        function.known[key] = self.found[-1]

    def _enter(self, made, value):
        """Find the value of the body."""
        self.left.append((self._reckon, (made.part.parts[0], {**made.scope, made.part.number: value})))

    def _look_up(self, told):
        """Find the function's entry for the worth that is found."""
        place = place_of(told.kind.one, self.found.pop())
        self.found.append(value_of(told.kind.other, told.worth[place]))

    def _tell(self, kind):
        """Find the worth of the sized kind that the value found is."""
        value = self.found.pop()
        if kind.most_taken == 0:
            self.found.append(value)
        elif kind.many == 1:
            # A worth of many entries may be made of few tuples, so it is not told entry by entry.
            self.found.append(all_worths(kind)[0])
        elif kind.word == "both":
            self.left.append((self._gather, (2,)))
            self._tell_later(kind.other, self._put, (value[1],))
            self._tell_later(kind.one, self._put, (value[0],))
        elif value.worth is None:
            self._tell_out(kind, value)
        else:
            self.found.append(value.worth)

    def _tell_later(self, kind, step, things):
        """Have the worth found of what the step finds."""
        self.left.append((self._tell, (kind,)))
        self.left.append((step, things))

    def _tell_out(self, kind, made):
        """Find the worth of a function: what it gives for each worth of what it takes."""
        if kind.one not in self.taken:
            self.taken[kind.one] = [value_of(kind.one, worth) for worth in all_worths(kind.one)]
        taken = self.taken[kind.one]
        self.left.append((self._keep_worth, (made,)))
        self.left.append((self._gather, (len(taken),)))
        for value in reversed(taken):
            self._tell_later(kind.other, self._enter, (made, value))

    def _gather(self, number):
        """Find one tuple of so many things that are found."""
        self.found.append(tuple(self.take_found(number)))

    def _keep_worth(self, made):
        """Keep the worth that the function is."""
        made.worth = self.found[-1]
