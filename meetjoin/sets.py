"""The sets that stand for the things of a net, and the net that the downsets of an order are."""

from meetjoin.errors import NoThing, NotSpread, TooMany
from meetjoin.nets import breach, check_net
from meetjoin.order import Order, right_pairs

# Five things may have 32 downsets, more than an order has things.
MOST_FOR_DOWNSETS = 4


def plain(order):
    check_net(order)
    uppers = [b for a, b in order.right_below()]
    return [c for c in range(order.many()) if uppers.count(c) == 1]


def members_below(order, things, a):
    return tuple([b for b in things if order.below(b, a)])


def sets(order):
    if breach(order) is not None:
        raise NotSpread("the net doesn't spread")
    things = plain(order)
    return [members_below(order, things, a) for a in range(order.many())]


# Each thing is added behind the sets made so far, so every tuple is a rising one.
def all_sets(many):
    found = [()]
    for a in range(many):
        found = found + [part + (a,) for part in found]
    return found


def is_downset(order, part):
    for b in part:
        for a in range(order.many()):
            if order.below(a, b) and a not in part:
                return False
    return True


def by_size(part):
    return (len(part), part)


def downsets(order):
    if order.many() > MOST_FOR_DOWNSETS:
        raise TooMany(f"downsets are told of at most {MOST_FOR_DOWNSETS} things")
    return sorted([part for part in all_sets(order.many()) if is_downset(order, part)], key=by_size)


def is_within(part, whole):
    return all([a in whole for a in part])


# All pairs below one another may be more than an order takes. Those right below are enough to tell it, and
# few enough: no three things are all right below one another, so 15 plain things have at most 7 * 8 such
# pairs, and of 16 downsets each is right below at most four.
def order_of_rows(rows):
    return Order(len(rows), right_pairs(rows))


def net_of(order):
    parts = downsets(order)
    rows = []
    for part in parts:
        rows.append([is_within(part, whole) for whole in parts])
    return order_of_rows(rows)


def plain_order(order):
    things = plain(order)
    if len(things) == 0:
        raise NoThing("the net has no plain thing")
    rows = []
    for a in things:
        rows.append([order.below(a, b) for b in things])
    return order_of_rows(rows)
