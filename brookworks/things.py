"""Things of any kind, held against what is told."""


def are_same(one, other):
    """Whether both are the same and of the same kinds throughout: True isn't 1, a list no tuple."""
    rest = [(one, other)]
    while rest:
        this, that = rest.pop()
        if not type(this) is type(that):
            return False
        if type(this) in (list, tuple):
            if len(this) != len(that):
                return False
            rest.extend(list(zip(this, that)))
        elif this != that:
            return False
    return True


def are_texts(thing):
    """Whether a thing is a list of texts."""
    return type(thing) is list and all([type(inner) is str for inner in thing])
