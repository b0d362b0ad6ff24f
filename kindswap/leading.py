"""What terms lead to: values by what is given, and of these the plain terms."""

from kindswap.steps import Telling

# So many terms are reckoned at most before it is known whether they are needed.
MOST_GUESSED = 20000


class Stuck:
    """A given, or what is done to such a thing: nothing more can be known of it."""

    def __init__(self, word, number, one, other, kind):
        self.word = word
        # Of a given which one it is.
        self.number = number
        self.one = one
        self.other = other
        self.kind = kind


class Pair:
    """A pair of values, which may be Late."""

    def __init__(self, one, other):
        self.one = one
        self.other = other


class Function:
    """A function that a term makes, with the values by number that are given to it."""

    def __init__(self, part, scope):
        self.part = part
        self.scope = scope


class Late:
    """A term with the values that are given to it, not reckoned before it is needed."""

    def __init__(self, part, scope):
        self.part = part
        self.scope = scope
        # None as long as it is not reckoned.
        self.value = None
        # Whether it was guessed that it can be reckoned in a few steps.
        self.guessed = False


def given_value(number, kind):
    """What is given under the number."""
    return Stuck("given", number, None, None, kind)


def settled(value):
    """The value itself in place of a Late one that is reckoned."""
    if isinstance(value, Late) and value.value is not None:
        return value.value
    return value


def needed(part, scope):
    """What the part needs of that which is given."""
    return {number: settled(scope[number]) for number in part.needs}


def only_term(kind):
    """The plain term of a kind that has only one, whatever is given; None of other kinds."""
    if kind[0] == "base":
        return None
    if kind[0] == "unit":
        return kind
    word, one, other = kind
    told = only_term(other)
    if told is None:
        return None
    if word == "from":
        return ("make", one, told)
    ahead = only_term(one)
    return None if ahead is None else ("both", ahead, told)


class Leading(Telling):
    """Reckons values of terms, and tells plain terms of values.

    Values that are made of the same things are one, and what a function gave is kept: else to do a
    thing twice, and that twice, and so on, would take powers of two of steps. For this, what is
    handed on is reckoned first. But it may be far too much and not be needed at all: so this is a
    guess that is given up after some steps. Then it is Late.
    """

    def __init__(self):
        Telling.__init__(self)
        # Values, by what they are made of.
        self.known = {}
        # What functions gave, by the function and what was handed to it.
        self.results = {}
        # What is reckoned by a guess, None without one: within a guess there is no other one.
        self.guess = None
        self.guess_left = 0
        # How many steps were left and how many things found when the guess was begun.
        self.guess_from = (0, 0)

    def reckoned(self, part, scope):
        """The value of the term by the values that are given, by number."""
        self.later(self._reckon, part, scope)
        return self.run()

    def result(self, function, value):
        """What the function gives for the value."""
        self.found.extend([function, value])
        self.later(self._hand)
        return self.run()

    def plain_term(self, value, kind, many):
        """The plain term of a value of the kind, where so many things are given."""
        self.later(self._tell, value, kind, many)
        return self.run()

    def _reckon(self, part, scope):
        """Find the value of a term."""
        if self.guess is not None:
            self.guess_left -= 1
            if self.guess_left < 0:
                self._give_up()
                return
        if part.word == "given":
            self._force(scope[part.number])
        elif part.word == "make":
            self.found.append(self._function(part, scope))
        elif part.word == "unit":
            self.found.append(())
        elif part.word == "both":
            self.later(self._both)
            self.later(self._offer, part.parts[1], scope)
            self.later(self._offer, part.parts[0], scope)
        elif part.word == "do":
            self.later(self._hand)
            self.later(self._offer, part.parts[1], scope)
            self.later(self._reckon, part.parts[0], scope)
        else:
            self.later(self._take, part.word)
            self.later(self._reckon, part.parts[0], scope)

    def _function(self, part, scope):
        """The function that the part makes of what is given."""
        own_scope = needed(part, scope)
        key = ("make", part, *list(own_scope.values()))
        if key not in self.known:
            self.known[key] = Function(part, own_scope)
        return self.known[key]

    def _late(self, part, scope):
        """The part as it is to be reckoned by what is given."""
        own_scope = needed(part, scope)
        key = ("late", part, *list(own_scope.values()))
        if key not in self.known:
            self.known[key] = Late(part, own_scope)
        return self.known[key]

    def _both(self):
        """Find the pair of two values that are found."""
        one, other = self.take_found(2)
        key = ("both", one, other)
        if key not in self.known:
            self.known[key] = Pair(one, other)
        self.found.append(self.known[key])

    def _stuck(self, word, one, other):
        """What is done to a Stuck thing."""
        key = (word, one, other)
        if key not in self.known:
            kind = one.kind[1] if word == "first" else one.kind[2]
            self.known[key] = Stuck(word, None, one, other, kind)
        return self.known[key]

    def _offer(self, part, scope):
        """Find the value of what is handed on, or the Late one."""
        if part.word == "given":
            self.found.append(settled(scope[part.number]))
        elif part.kind[0] == "unit":
            self.found.append(())
        elif part.word == "make":
            self.found.append(self._function(part, scope))
        else:
            self._guess(self._late(part, scope))

    def _guess(self, late):
        """Find the value of the Late one if it takes no more than some steps, else itself."""
        if late.value is None and self.guess is None:
            if late.guessed:
                self.found.append(late)
                return
            late.guessed = True
            self.guess = late
            self.guess_left = MOST_GUESSED
            self.guess_from = (len(self.left), len(self.found))
            self.later(self._end_guess)
        self._force(late)

    def _end_guess(self):
        """Go on without a guess, as the value is found."""
        self.guess = None

    def _give_up(self):
        """Go on from where the guess was begun, with the Late one as it is."""
        left, found = self.guess_from
        del self.left[left:]
        del self.found[found:]
        self.found.append(self.guess)
        self.guess = None

    def _force(self, value):
        """Find the value, which may be Late, reckoned."""
        if isinstance(value, Late) and value.value is None:
            self.later(self._keep_value, value)
            self.later(self._reckon, value.part, value.scope)
        else:
            self.found.append(settled(value))

    def _keep_value(self, late):
        """Keep the value that the Late one has."""
        late.value = self.found[-1]

    def _take(self, word):
        """Find the first or the second of the pair that is found."""
        value = self.found.pop()
        if isinstance(value, Pair):
            self._force(value.one if word == "first" else value.other)
        else:
            self.found.append(self._stuck(word, value, None))

    def _hand(self):
        """Find what a function gives for a value, both being found."""
        function, value = self.take_found(2)
        if isinstance(function, Stuck):
            self.found.append(self._stuck("do", function, value))
            return
        key = (function, value)
        if key in self.results:
            self.found.append(self.results[key])
            return
        self.later(self._keep_result, key)
        part = function.part
        self.later(self._reckon, part.parts[0], {**function.scope, part.number: value})

    def _keep_result(self, key):
        """Keep what the function gave."""
        self.results[key] = self.found[-1]

    def _tell(self, value, kind, many):
        """Find the plain term of the value, where so many things are given."""
        only = only_term(kind)
        if only is not None:
            self.found.append(only)
        else:
            self.later(self._tell_found, kind, many)
            self._force(value)

    def _tell_found(self, kind, many):
        """Find the plain term of the value that is found."""
        value = self.found.pop()
        key = (value, many)
        if key in self.terms:
            self.found.append(self.terms[key])
            return
        self.later(self.keep, key)
        if kind[0] == "base":
            self._tell_stuck(value, many)
        elif kind[0] == "both":
            self._tell_pair(value, kind, many)
        else:
            self.later(self.make, kind[1])
            self.later(self._tell_found, kind[2], many + 1)
            self.later(self._hand)
            self.found.extend([value, given_value(many, kind[1])])

    def _tell_pair(self, value, kind, many):
        """Find the plain term of a pair, both of its first and second."""
        if isinstance(value, Pair):
            one, other = value.one, value.other
        else:
            one, other = self._stuck("first", value, None), self._stuck("second", value, None)
        self.later(self.pair)
        self.later(self._tell, other, kind[2], many)
        self.later(self._tell, one, kind[1], many)

    def _tell_stuck(self, stuck, many):
        """Find the given to which things are done one behind the other."""
        words = []
        steps = []
        while stuck.word != "given":
            words.append(stuck.word)
            if stuck.word == "do":
                steps.append((self._tell, (stuck.other, stuck.one.kind[1], many)))
            stuck = stuck.one
        words.reverse()
        self.later(self.lead, stuck.number, words, len(steps))
        # The last of them is done first, and it is the one that is handed first.
        self.left.extend(steps)
