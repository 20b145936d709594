"""NAMEs and PATHs, and what is within what."""

LONGEST = 8
DEEPEST = 3


def is_name(thing):
    """Whether a thing is a text of one to eight letters a to z."""
    if not isinstance(thing, str) or len(thing) > LONGEST:
        return False
    # Only isascii keeps out the letters of other scripts.
    return thing.isascii() and thing.isalpha() and thing.islower()


def is_path(thing):
    """Whether a thing is a text of one to three NAMEs parted by dots."""
    if not isinstance(thing, str):
        return False
    names = thing.split(".")
    return len(names) <= DEEPEST and all([is_name(name) for name in names])


def tray_of(path):
    """The PATH without its last NAME, the empty text where it has but one."""
    return path.rpartition(".")[0]


def is_within(path, tray):
    """Whether a PATH has a tray's PATH ahead of it."""
    return path.startswith(tray + ".")
