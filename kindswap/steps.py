"""Work that is done step by step, and what plain terms are put together by."""


class Steps:
    """Steps instead of recursion: what is done within one another may go far deeper than a term."""

    def __init__(self):
        # Steps to be done, the next one last: methods, each with what is passed to it.
        self.left = []
        # What steps found, for later ones to use.
        self.found = []

    def later(self, step, *things):
        """Have the step done next, ahead of all that are left."""
        self.left.append((step, things))

    def run(self):
        """Do all steps that are left; the thing found last."""
        while self.left:
            step, things = self.left.pop()
            step(*things)
        return self.found.pop()

    def take_found(self, many):
        """So many things that are found, the last one last: they are used up by this."""
        at = len(self.found) - many
        row = self.found[at:]
        del self.found[at:]
        return row


class Telling(Steps):
    """Steps by which plain terms are told."""

    def __init__(self):
        Steps.__init__(self)
        # Terms that are told already, by what they are told of: else what is the same in several
        # places would be told as often, and all that stands in it as often again.
        self.terms = {}

    def keep(self, key):
        """Keep the term that is found."""
        self.terms[key] = self.found[-1]

    def pair(self):
        """Find both of two terms that are found."""
        self.found.append(("both", *self.take_found(2)))

    def make(self, kind):
        """Find the function that takes the kind, its body being found."""
        self.found.append(("make", kind, self.found.pop()))

    def lead(self, number, words, many):
        """Find a given to which things are done one behind the other: so many are found to be
        handed to it, in order."""
        handed = self.take_found(many)
        term = ("given", number)
        at = 0
        for word in words:
            if word == "do":
                term = (word, term, handed[at])
                at += 1
            else:
                term = (word, term)
        self.found.append(term)
