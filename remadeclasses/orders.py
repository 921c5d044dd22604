"""Orders of classes, by the merge that Python does."""


def orders_of(bases):
    """The order of each class, or None if there is none for some class.

    bases is a dict that has, for each class, the tuple of its bases; no class is
    among those that its bases come from.
    """
    orders = {}
    for klass in bases:
        if order_of(klass, bases, orders) is None:
            return None
    return orders


def order_of(klass, bases, orders):
    """The order of a class, None if there is none; orders keeps what was found."""
    if klass not in orders:
        rows = [order_of(base, bases, orders) for base in bases[klass]]
        orders[klass] = None
        if None not in rows:
            behind = merge(rows + [bases[klass]])
            if behind is not None:
                orders[klass] = (klass,) + behind
    return orders[klass]


def merge(rows):
    """The merge of rows of classes as a tuple, None if there is none."""
    told = ()
    rows = [row for row in rows if len(row) > 0]
    while len(rows) > 0:
        first = first_free(rows)
        if first is None:
            return None
        told = told + (first,)
        rows = without_first(rows, first)
    return told


def first_free(rows):
    """The first class of a row that stands behind the first place in no row."""
    for row in rows:
        if not any([row[0] in other[1:] for other in rows]):
            return row[0]
    return None


def without_first(rows, first):
    """What is left of the rows when this class, first in some of them, is taken out."""
    left = []
    for row in rows:
        rest = row[1:] if row[0] == first else row
        if len(rest) > 0:
            left.append(rest)
    return left
