"""Words that arguments consist of, and the six of them that compare."""

from farwrap.errors import InvalidBound

RELATIONS = ("<", "<=", "==", "!=", ">=", ">")
OPPOSITES = {"<": ">=", "<=": ">", "==": "!=", "!=": "==", ">=": "<", ">": "<="}


def is_word(value, words):
    """Return whether an object is one of these strings."""
    return isinstance(value, str) and value in words


def check_word(word, words, argument):
    """Raise the error of an argument that is none of these strings."""
    if not is_word(word, words):
        raise InvalidBound(argument)


def opposite(relation):
    """Return the relation that holds just where this one does not."""
    return OPPOSITES[relation]


def stands(y, relation, z):
    """Return whether two integers stand in a relation."""
    match relation:
        case "<":
            return y < z
        case "<=":
            return y <= z
        case "==":
            return y == z
        case "!=":
            return y != z
        case ">=":
            return y >= z
        case _:
            return y > z
