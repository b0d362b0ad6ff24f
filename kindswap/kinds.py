"""Kinds, and the texts that they are written as."""

from kindswap.errors import NoKind, NoText

BASE_LETTERS = "abcdefgh"
UNIT_TEXT = "1"
SIGN_OF_WORD = {"both": "*", "from": ">"}
WORD_OF_SIGN = {"*": "both", ">": "from"}


def is_base_number(thing):
    """Whether the thing is the number of a base."""
    # The very class is asked for: True and False are no whole numbers here.
    return type(thing) is int and 0 <= thing < len(BASE_LETTERS)


def is_kind(thing):
    """Whether the thing, which may be anything, is a kind."""
    # A stack instead of recursion, so that no depth of the thing is too great.
    left = [thing]
    while left:
        part = left.pop()
        if not _is_kind_but_for_parts(part):
            return False
        if part[0] in SIGN_OF_WORD:
            left.extend(part[1:])
    return True


def _is_kind_but_for_parts(thing):
    """Whether the thing is a kind if the kinds that it is made of are such."""
    if type(thing) is not tuple or len(thing) == 0:
        return False
    word = thing[0]
    # An object of another class might call itself equal to a word.
    if type(word) is not str:
        return False
    if word == "base":
        return len(thing) == 2 and is_base_number(thing[1])
    if word == "unit":
        return len(thing) == 1
    return word in SIGN_OF_WORD and len(thing) == 3


def need_kind(thing):
    """Refuse what is no kind."""
    if not is_kind(thing):
        raise NoKind("this is not a kind")


def kind_text(kind):
    """The text that the kind is written as."""
    need_kind(kind)
    pieces = []
    # What is still to be written, the next one last: kinds, and signs as they are.
    left = [kind]
    while left:
        part = left.pop()
        if type(part) is str:
            pieces.append(part)
        elif part[0] == "base":
            pieces.append(BASE_LETTERS[part[1]])
        elif part[0] == "unit":
            pieces.append(UNIT_TEXT)
        else:
            word, one, other = part
            left.extend([")", other, SIGN_OF_WORD[word], one, "("])
    return "".join(pieces)


def read_kind(text):
    """The kind that is written as the text."""
    if type(text) is not str:
        raise NoText("this is not a text")
    # What is read and not yet closed: kinds as tuples, signs as they are.
    parts = []
    for sign in text:
        if sign == ")":
            _close_braces(parts)
        else:
            parts.append(_read_sign(sign))
    if len(parts) != 1 or type(parts[0]) is not tuple:
        raise NoText("this is not the text of one kind")
    return parts[0]


def _read_sign(sign):
    """The kind that the sign alone stands for, else the sign itself."""
    if sign == UNIT_TEXT:
        return ("unit",)
    if sign in BASE_LETTERS:
        return ("base", BASE_LETTERS.index(sign))
    if sign == "(" or sign in WORD_OF_SIGN:
        return sign
    raise NoText("no kind is written with this sign")


def _close_braces(parts):
    """Put one kind in place of the brace, the kind, the sign and the kind at the end."""
    if len(parts) < 4:
        raise NoText("a brace is closed too early")
    brace, one, sign, other = parts[-4:]
    if type(one) is not tuple or type(other) is not tuple:
        raise NoText("a kind is missing within braces")
    if brace != "(" or type(sign) is not str or sign not in WORD_OF_SIGN:
        raise NoText("the braces don't fit")
    parts[-4:] = [(WORD_OF_SIGN[sign], one, other)]
