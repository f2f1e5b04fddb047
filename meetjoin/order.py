"""Orders: which thing is below which, and which is right below which."""

from meetjoin.errors import BadPair, BadThings, NoThing, Ring

MOST_THINGS = 16
MOST_PAIRS = 60


def is_thing(many, a):
    return 0 <= a < many


# No refusal names the number it refuses: Python itself refuses to write out very long ones.
def check_many(many):
    if many < 1 or many > MOST_THINGS:
        raise BadThings(f"an order has 1 to {MOST_THINGS} things")


def check_pairs(many, pairs):
    if len(pairs) > MOST_PAIRS:
        raise BadPair(f"an order is told by at most {MOST_PAIRS} pairs")
    for a, b in pairs:
        if not is_thing(many, a) or not is_thing(many, b):
            raise BadPair("a pair names what is no thing")


def told_rows(many, pairs):
    rows = []
    for a in range(many):
        rows.append([a == b for b in range(many)])
    for a, b in pairs:
        rows[a][b] = True
    return rows


def add_row(rows, a, c):
    rows[a] = [here or there for here, there in zip(rows[a], rows[c])]


# The middle thing has to be the outermost walk: then one round finds every way, however long.
def close_rows(many, rows):
    for c in range(many):
        for a in range(many):
            if rows[a][c]:
                add_row(rows, a, c)


def check_rings(many, rows):
    for a in range(many):
        for b in range(a):
            if rows[a][b] and rows[b][a]:
                raise Ring("two unlike things are below one another")


def has_between(rows, a, b):
    for c in range(len(rows)):
        if c != a and c != b and rows[a][c] and rows[c][b]:
            return True
    return False


def right_pairs(rows):
    pairs = []
    for a in range(len(rows)):
        for b in range(len(rows)):
            if a != b and rows[a][b] and not has_between(rows, a, b):
                pairs.append((a, b))
    return pairs


class Order:
    def __init__(self, many, pairs):
        check_many(many)
        check_pairs(many, pairs)
        rows = told_rows(many, pairs)
        close_rows(many, rows)
        check_rings(many, rows)
        # Tuples, since an order stays as it was made.
        self.table = tuple([tuple(row) for row in rows])

    def many(self):
        return len(self.table)

    # A number below nought would count from the row's end, so it can't be left to the index.
    def check_thing(self, a):
        if not is_thing(self.many(), a):
            raise NoThing("there is no such thing in the order")

    def below(self, a, b):
        self.check_thing(a)
        self.check_thing(b)
        return self.table[a][b]

    def right_below(self):
        return right_pairs(self.table)


# All pairs below one another may be more than an order takes; those right below are
# enough to tell it, and are never more than the pairs it was told by.
def turned(order):
    return Order(order.many(), [(b, a) for a, b in order.right_below()])
