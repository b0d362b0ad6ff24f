"""Terms as they are read: parts of which each one's kind is known."""

from kindswap.errors import NoTerm
from kindswap.kinds import is_kind

# Of how many things a term of each word is made, the word included.
LENGTHS = {"given": 2, "make": 3, "do": 3, "both": 3, "first": 2, "second": 2, "unit": 1}


class Part:
    """A term with a kind, and what it is made of."""

    def __init__(self, word, kind, parts, number, needs):
        self.word = word
        self.kind = kind
        self.parts = parts
        # Of a given which one it is, of a function which one its body is given by it.
        self.number = number
        # The numbers of what must be given, in order, each once.
        self.needs = needs


def read_term(thing, given):
    """The term that the thing, which may be anything, is by the kinds given."""
    # What is to be a term, each thing with the kinds given to it and ahead of what it is made of.
    rows = []
    left = [(thing, given)]
    while left:
        piece, kinds = left.pop()
        pieces = _pieces(piece)
        rows.append((piece, kinds, len(pieces)))
        inner = kinds + [piece[1]] if piece[0] == "make" else kinds
        left.extend([(part, inner) for part in pieces])
    # From the last one on, the parts of each are those made just before it.
    made = []
    for piece, kinds, many in reversed(rows):
        at = len(made) - many
        part = _part(piece, kinds, made[at:])
        made[at:] = [part]
    return made[0]


def _pieces(thing):
    """What must be terms for the thing, which may be anything, to be one."""
    if type(thing) is not tuple or len(thing) == 0:
        raise NoTerm("this is not a term")
    word = thing[0]
    # An object of another class might call itself equal to a word.
    if type(word) is not str or word not in LENGTHS or len(thing) != LENGTHS[word]:
        raise NoTerm("this is not a term")
    if word == "given":
        return ()
    if word == "make":
        if not is_kind(thing[1]):
            raise NoTerm("a function takes what is not a kind")
        return thing[2:]
    return thing[1:]


def _part(thing, given, parts):
    """The term that the thing is by the kinds given, of these parts."""
    word = thing[0]
    if word == "given":
        return _given_part(thing[1], given)
    needs = _needs_of_parts(parts)
    if word == "make":
        number = len(given)
        outer = [need for need in needs if need != number]
        return Part(word, ("from", thing[1], parts[0].kind), parts, number, outer)
    return Part(word, _kind_by_parts(word, parts), parts, None, needs)


def _needs_of_parts(parts):
    """The numbers of what must be given for the parts, in order, each once."""
    if len(parts) == 1:
        return parts[0].needs
    return sorted({number for part in parts for number in part.needs})


def _given_part(number, given):
    """What was given under the number."""
    if type(number) is not int or not 0 <= number < len(given):
        raise NoTerm("this is not given")
    return Part("given", given[number], [], number, [number])


def _kind_by_parts(word, parts):
    """The kind of a term of such parts, that is neither a given nor a made function."""
    if word == "unit":
        return ("unit",)
    kind = parts[0].kind
    if word == "both":
        return ("both", kind, parts[1].kind)
    if word == "do":
        if kind[0] != "from" or kind[1] != parts[1].kind:
            raise NoTerm("this can't be handed to that")
        return kind[2]
    if kind[0] != "both":
        raise NoTerm("a part is taken of what is not a pair")
    return kind[1] if word == "first" else kind[2]
