"""Turners: how each base that a worth leads to is found in a worth of an alike kind."""

from kindswap.steps import Telling


class Leaf:
    """A base to which a worth of a kind leads, and the way to it."""

    def __init__(self, number, words, takes, wants, factor):
        self.number = number
        # What is done to the worth: "first", "second", or "do" where something is handed to it.
        self.words = words
        # The nodes of what is handed to it, and all leaves of these, in order.
        self.takes = takes
        self.wants = wants
        # A number, the same one just for the same factors of forms.
        self.factor = factor


class Node:
    """A kind with all its leaves in order."""

    def __init__(self, kind, one, other, leaves):
        self.kind = kind
        self.one = one
        self.other = other
        self.leaves = leaves


class Nodes:
    """The nodes of kinds: the same kinds have one, and the same factors have one number."""

    def __init__(self):
        self.nodes = {}
        self.factors = {}

    def node(self, kind):
        """The node of what surely is a kind."""
        if kind[0] in ("base", "unit"):
            key = kind
            one, other = None, None
        else:
            one, other = self.node(kind[1]), self.node(kind[2])
            key = (kind[0], one, other)
        if key not in self.nodes:
            self.nodes[key] = Node(kind, one, other, self._leaves(kind, one, other))
        return self.nodes[key]

    def _leaves(self, kind, one, other):
        """The leaves of the kind that is made of these nodes."""
        word = kind[0]
        if word == "unit":
            return []
        if word == "base":
            return [Leaf(kind[1], [], [], [], self._factor(kind[1], []))]
        if word == "from":
            return [self._behind_function(one, leaf) for leaf in other.leaves]
        ahead = [_behind_pair("first", leaf) for leaf in one.leaves]
        return ahead + [_behind_pair("second", leaf) for leaf in other.leaves]

    def _behind_function(self, taken, leaf):
        """The leaf of what a function gives that takes the kind of the node."""
        wants = taken.leaves + leaf.wants
        factor = self._factor(leaf.number, wants)
        return Leaf(leaf.number, ["do"] + leaf.words, [taken] + leaf.takes, wants, factor)

    def _factor(self, number, wants):
        """The number of the factor that is the base with what it wants."""
        key = (number, *sorted([leaf.factor for leaf in wants]))
        if key not in self.factors:
            self.factors[key] = len(self.factors)
        return self.factors[key]


def _behind_pair(word, leaf):
    """The leaf of the first or the second of a pair."""
    return Leaf(leaf.number, [word] + leaf.words, leaf.takes, leaf.wants, leaf.factor)


def matched(sources, leaves):
    """For each leaf a source of it. Sources are pairs: the number of a given and a leaf of it.

    The first of several same factors is matched with the first one, and so on: so the same ones
    are matched with one another, if sources and leaves are exchanged.
    """
    found = [None] * len(leaves)
    source_places = _places([leaf for number, leaf in sources])
    for place, source_place in zip(_places(leaves), source_places, strict=True):
        found[place] = sources[source_place]
    return found


def _places(leaves):
    """The places of the leaves in the order of their factors, of the same ones as they stand."""
    rows = sorted([(leaf.factor, place) for place, leaf in enumerate(leaves)])
    return [place for factor, place in rows]


class Turning(Telling):
    """Tells turners."""

    def turner(self, one, other):
        """The turner from one node's kind to the other's, which has the same factors."""
        sources = matched([(0, leaf) for leaf in one.leaves], other.leaves)
        self.later(self.make, one.kind)
        self.later(self._fill, other, sources, [], 1)
        return self.run()

    def _fill(self, node, sources, held, many):
        """Find the plain term of the node's kind, a source being told for each leaf of it.

        Held are the sources of what was handed to the functions in which the term stands, in order,
        so far as its leaves want it; so many things are given.
        """
        word = node.kind[0]
        if word == "unit":
            self.found.append(("unit",))
        elif word == "base":
            self._lead_from(sources[0], held, many)
        elif word == "from":
            self.later(self.make, node.one.kind)
            more = [(many, leaf) for leaf in node.one.leaves]
            self.later(self._fill, node.other, sources, held + more, many + 1)
        else:
            first_ones = len(node.one.leaves)
            self.later(self.pair)
            self.later(self._fill, node.other, sources[first_ones:], held, many)
            self.later(self._fill, node.one, sources[:first_ones], held, many)

    def _lead_from(self, source, held, many):
        """Find the base to which the source leads, by what is held."""
        number, leaf = source
        handed = matched(held, leaf.wants)
        steps = []
        at = 0
        for node in leaf.takes:
            end = at + len(node.leaves)
            steps.append((self._fill_once, (node, tuple(handed[at:end]), many)))
            at = end
        self.later(self.lead, number, leaf.words, len(steps))
        # What is handed first is to be found first, and so it is left last.
        steps.reverse()
        self.left.extend(steps)

    def _fill_once(self, node, sources, many):
        """Find the plain term that is handed, which may be handed in several places."""
        key = (node, sources, many)
        if key in self.terms:
            self.found.append(self.terms[key])
        else:
            self.later(self.keep, key)
            self.later(self._fill, node, sources, [], many)
