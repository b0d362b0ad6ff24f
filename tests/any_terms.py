"""Terms of wished kinds, put together without any plan, but the same ones each time."""

from samples import A, B, C, UNIT
from term_samples import NOTHING, do, first, given, make, second


class NoneFound(Exception):
    """There is no such term, or it is not found in so few steps."""


class AnyTerms:
    """Makes terms by a source of chance."""

    def __init__(self, chance):
        self.chance = chance
        self.left = 0

    def kind(self, deep):
        """A kind of at most so many kinds within one another."""
        if deep == 0 or self.chance.random() < 0.3:
            return self.chance.choice([A, B, C, UNIT])
        return (self.chance.choice(["both", "from", "from"]), self.kind(deep - 1), self.kind(deep - 1))

    def term(self, kind, kinds, deep):
        """A term of the kind by what is given, as far as that is found in some steps."""
        self.left = 80
        return self._term(kind, kinds, deep)

    def _term(self, kind, kinds, deep):
        self.left -= 1
        if self.left < 0:
            raise NoneFound
        way = self.chance.random() if deep > 0 else 1
        if way < 0.2:
            taken = self.kind(2)
            return do(self._term(("from", taken, kind), kinds, deep - 1), self._term(taken, kinds, deep - 1))
        if way < 0.3:
            return first(self._term(("both", kind, self.kind(1)), kinds, deep - 1))
        if way < 0.4:
            return second(self._term(("both", self.kind(1), kind), kinds, deep - 1))
        if way < 0.7 or kind[0] == "base" or deep < -2:
            found = self._of_given(kind, kinds, deep)
            if found is not None:
                return found
        return self._put_together(kind, kinds, deep - 1)

    def _put_together(self, kind, kinds, deep):
        if kind == UNIT:
            return NOTHING
        if kind[0] == "both":
            return ("both", self._term(kind[1], kinds, deep), self._term(kind[2], kinds, deep))
        if kind[0] == "from":
            return make(kind[1], self._term(kind[2], kinds + [kind[1]], deep))
        raise NoneFound

    def _of_given(self, kind, kinds, deep):
        for k in self.chance.sample(range(len(kinds)), len(kinds)):
            found = self._drawn(given(k), kinds[k], kind, kinds, deep)
            if found is not None:
                return found
        return None

    def _drawn(self, term, drawn, kind, kinds, deep):
        """A term of the kind that is drawn out of the term."""
        if drawn == kind:
            return term
        if drawn[0] == "both":
            one = self._drawn(first(term), drawn[1], kind, kinds, deep)
            return one or self._drawn(second(term), drawn[2], kind, kinds, deep)
        if drawn[0] == "from" and deep > -3 and _gives(drawn[2], kind):
            try:
                handed = self._term(drawn[1], kinds, deep - 1)
            except NoneFound:
                return None
            return self._drawn(do(term, handed), drawn[2], kind, kinds, deep)
        return None


def _gives(drawn, kind):
    """Whether the kind can be drawn out of the one that is drawn."""
    if drawn == kind:
        return True
    if drawn[0] == "both":
        return _gives(drawn[1], kind) or _gives(drawn[2], kind)
    return drawn[0] == "from" and _gives(drawn[2], kind)
