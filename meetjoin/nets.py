"""Nets: meets and joins, and whether a net spreads."""

from meetjoin.errors import NotNet


def meet(order, a, b):
    order.check_thing(a)
    order.check_thing(b)
    lowers = [c for c in range(order.many()) if order.below(c, a) and order.below(c, b)]
    for c in lowers:
        if all([order.below(d, c) for d in lowers]):
            return c
    return None


def join(order, a, b):
    order.check_thing(a)
    order.check_thing(b)
    uppers = [c for c in range(order.many()) if order.below(a, c) and order.below(b, c)]
    for c in uppers:
        if all([order.below(c, d) for d in uppers]):
            return c
    return None


def lacking(order):
    for a in range(order.many()):
        for b in range(a + 1, order.many()):
            if meet(order, a, b) is None:
                return (a, b, "meet")
            if join(order, a, b) is None:
                return (a, b, "join")
    return None


def check_net(order):
    if lacking(order) is not None:
        raise NotNet("two things of the order lack a meet or a join")


# A walk over all triples asks for each meet and join many times over, so they are found once and looked up.
def meet_rows(order):
    rows = []
    for a in range(order.many()):
        rows.append([meet(order, a, b) for b in range(order.many())])
    return rows


def join_rows(order):
    rows = []
    for a in range(order.many()):
        rows.append([join(order, a, b) for b in range(order.many())])
    return rows


def spreads_at(meets, joins, a, b, c):
    return meets[a][joins[b][c]] == joins[meets[a][b]][meets[a][c]]


def breach(order):
    check_net(order)
    meets = meet_rows(order)
    joins = join_rows(order)
    for a in range(order.many()):
        for b in range(order.many()):
            for c in range(order.many()):
                if not spreads_at(meets, joins, a, b, c):
                    return (a, b, c)
    return None


def all_alike(rows, a, b, c):
    return rows[a][b] == rows[a][c] and rows[a][c] == rows[b][c]


def side_by_side(meets, joins, a, b, c):
    unlike = a != b and a != c and b != c
    return unlike and all_alike(meets, a, b, c) and all_alike(joins, a, b, c)


# In a net a is below b just where it is their meet.
def askew(meets, joins, a, b, c):
    lower = a != b and meets[a][b] == a
    return lower and meets[a][c] == meets[b][c] and joins[a][c] == joins[b][c]


def inner(order):
    check_net(order)
    meets = meet_rows(order)
    joins = join_rows(order)
    for a in range(order.many()):
        for b in range(order.many()):
            for c in range(order.many()):
                if side_by_side(meets, joins, a, b, c):
                    return ("side by side", a, b, c)
                if askew(meets, joins, a, b, c):
                    return ("askew", a, b, c)
    return None
