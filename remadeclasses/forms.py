"""The forms of what a script is built of. What is asked about is any value."""

from remadeclasses.bounds import MOST_OFFERS

MOST_LETTERS = 8
MOST_WORDS = 2
MOST_BASES = 3
SORTS = ("value", "does", "looks")

# What stands behind the first word of each form. Whatever is "any" has a place
# of its own at which script_error tells what is wrong with it.
STEP_FORMS = {
    "class": ("word", "bases", "any"),
    "part": ("word", "any"),
    "cut": ("word", "word"),
    "forget": ("word",),
    "lead": ("word",),
    "rebase": ("word", "bases"),
    "fill": ("word", "word", "word"),
    "clear": ("word", "word"),
}
ROW_FORMS = {
    "say": ("word",),
    "tell": ("word",),
    "put": ("word", "word"),
    "keep": ("word",),
    "drop": ("word",),
    "do": ("target",),
    "give": ("target",),
    "if": ("test", "any", "any"),
}
TARGET_FORMS = {
    "own": ("word",),
    "up": ("word",),
    "past": ("word", "word"),
    "base": ("word", "word"),
}
TEST_FORMS = {
    "has": ("word",),
    "is": ("word", "word"),
    "kin": ("word",),
    "guest": ("word",),
    "told": ("word",),
}
CASE_FORMS = {
    "make": ("word", "number"),
    "call": ("word", "number", "word"),
    "read": ("word", "number", "word"),
    "hold": ("word", "number", "word"),
    "ring": ("number", "number", "number"),
}


def is_tuple_of(value, least, most):
    """Whether it is a tuple of so many items, whatever they are."""
    return isinstance(value, tuple) and least <= len(value) <= most


def is_whole(value):
    """Whether it is a whole number."""
    return isinstance(value, int) and not isinstance(value, bool)


def is_number_below(value, many):
    """Whether it is the number of one of so many things."""
    return is_whole(value) and 0 <= value < many


def is_ascending(items):
    """Whether each item is above the one ahead; they can be compared."""
    return all([low < high for low, high in zip(items, items[1:])])


def is_word(value):
    """Whether it is a text of 1 to 8 small letters from a to z."""
    if not isinstance(value, str) or len(value) > MOST_LETTERS:
        return False
    # Beyond ASCII there are other small letters.
    return value.isascii() and value.isalpha() and value.islower()


def is_words(value):
    """Whether it is what outsiders can tell."""
    if not is_tuple_of(value, 1, MOST_WORDS):
        return False
    return all([is_word(word) for word in value]) and is_ascending(value)


def is_offer(value):
    """Whether it is one offer."""
    if not is_tuple_of(value, 3, 3):
        return False
    c, n, way = value
    if not is_word(c) or not is_word(n):
        return False
    return way == "call" or way == "read" or (way == "make" and n == "born")


def is_offers(value):
    """Whether it is all that is offered to outsiders."""
    if not is_tuple_of(value, 0, MOST_OFFERS):
        return False
    return all([is_offer(offer) for offer in value]) and is_ascending(value)


def is_bases(value):
    """Whether it can name the bases of a class; a word may stand twice."""
    if not is_tuple_of(value, 0, MOST_BASES):
        return False
    return all([is_word(word) for word in value])


def is_step(value):
    """Whether it is a step but for its parts, which may be anything."""
    return fits(value, STEP_FORMS.get(head_of(value)))


def is_part(value):
    """Whether it is a part but for its body, which may be anything."""
    if not is_tuple_of(value, 3, 3):
        return False
    n, sort, what = value
    if not is_word(n) or sort not in SORTS:
        return False
    return sort != "value" or is_word(what)


def is_row(value):
    """Whether it is a row but for the bodies of an if, which may be anything."""
    return fits(value, ROW_FORMS.get(head_of(value)))


def is_standing(value):
    """Whether it has the form of what a thing can be: class, number and own fields."""
    if not is_tuple_of(value, 3, 3) or not isinstance(value[2], tuple):
        return False
    c, number, fields = value
    if not is_word(c) or not is_whole(number) or number < 0:
        return False
    return all([is_field(field) for field in fields]) and is_ascending([n for n, _ in fields])


def is_field(value):
    """Whether it is an own field with its word."""
    return is_tuple_of(value, 2, 2) and is_word(value[0]) and is_word(value[1])


def is_place(value):
    """Whether it has the form of the place of a body."""
    return is_tuple_of(value, 3, 3) and all([is_whole(number) for number in value])


def is_case(value):
    """Whether it has the form of a case: stage, deed, and the kind and word of a fault."""
    if not is_tuple_of(value, 4, 4):
        return False
    stage, deed, kind, n = value
    if not is_whole(stage) or not fits(deed, CASE_FORMS.get(head_of(deed))):
        return False
    return is_word(kind) and is_word(n)


def head_of(value):
    """The text that stands first in a tuple; if there is none, the empty one."""
    if isinstance(value, tuple) and len(value) > 0 and isinstance(value[0], str):
        return value[0]
    return ""


def fits(value, kinds):
    """Whether these kinds stand behind its first word; None if no form has it."""
    if kinds is None or len(value) != len(kinds) + 1:
        return False
    return all([is_of_kind(item, kind) for item, kind in zip(value[1:], kinds)])


def is_of_kind(value, kind):
    """Whether it is what a form has under this name."""
    if kind == "word":
        return is_word(value)
    if kind == "number":
        return is_whole(value)
    if kind == "bases":
        return is_bases(value)
    if kind == "target":
        return fits(value, TARGET_FORMS.get(head_of(value)))
    if kind == "test":
        return fits(value, TEST_FORMS.get(head_of(value)))
    return True
