"""What the tests share: orders to ask of, and the document's words gone through one by one."""

import functools
import itertools
import random
import unittest

from meetjoin import errors
from meetjoin.order import Order

KINDS = ["BadThings", "BadPair", "Ring", "NoThing", "NotNet", "NotSpread", "TooMany", "NoText"]
# Too long for Python to write it out by figures.
HUGE = 10 ** 5000
CHAIN = [(k, k + 1) for k in range(15)]
CUBE = [(a, a | bit) for a in range(16) for bit in (1, 2, 4, 8) if not a & bit]
# Eight things below eight others, in 60 pairs that are all right below.
CROWD = [(a, b) for a in range(8) for b in range(8, 16)][:60]


def reached(many, pairs):
    """All (a, b) with a way from a to b, found by walking from each thing."""
    found = set()
    for start in range(many):
        waiting = [start]
        while waiting:
            a = waiting.pop()
            if (start, a) not in found:
                found.add((start, a))
                waiting.extend(y for x, y in pairs if x == a)
    return found


def has_ring(found):
    return any(a != b and (b, a) in found for a, b in found)


def covers(found):
    """All (a, b) with a right below b, straight from the document's words."""
    strict = {(a, b) for a, b in found if a != b}
    things = {a for a, b in found}
    return sorted((a, b) for a, b in strict
                  if not any((a, c) in strict and (c, b) in strict for c in things))


def belows(order):
    things = range(order.many())
    return {(a, b) for a in things for b in things if order.below(a, b)}


def few_things():
    """Each way to tell an order of 1 to 3 things by unlike pairs, and of 4 without self-pairs."""
    for many in (1, 2, 3, 4):
        able = [(a, b) for a in range(many) for b in range(many) if many < 4 or a != b]
        for marks in itertools.product((False, True), repeat=len(able)):
            yield many, [pair for pair, mark in zip(able, marks) if mark]


def many_things():
    """Orders of up to 16 things and 60 pairs, the same ones at each run."""
    source = random.Random(20)
    for many in range(1, 17):
        for length in (0, 1, many, 2 * many, 60):
            names = list(range(many))
            source.shuffle(names)
            pairs = []
            for place in range(length):
                low, high = sorted((source.randrange(many), source.randrange(many)))
                pairs.append((names[low], names[high]))
            yield many, pairs


@functools.cache
def few_orders():
    """Each order of 1 to 4 things once, told by its pairs right below."""
    told = {}
    for many, pairs in few_things():
        found = reached(many, pairs)
        if not has_ring(found):
            told[many, tuple(covers(found))] = True
    return [(many, list(pairs)) for many, pairs in told]


def renamed(many, pairs, source):
    names = list(range(many))
    source.shuffle(names)
    return many, [(names[a], names[b]) for a, b in pairs]


def by_inclusion(family):
    """The order of some unlike sets, by which is a part of which."""
    places = range(len(family))
    return len(family), covers({(a, b) for a in places for b in places if family[a] <= family[b]})


def grid(*lengths):
    """Chains laid crosswise."""
    spots = list(itertools.product(*[range(length) for length in lengths]))
    return by_inclusion([frozenset((axis, k) for axis, at in enumerate(spot) for k in range(at)) for spot in spots])


def fan(sides):
    """A least and a greatest thing, and chains of these lengths between them."""
    many = 2
    pairs = []
    for length in sides:
        way = [0] + list(range(many, many + length)) + [1]
        pairs.extend(zip(way, way[1:]))
        many += length
    return many, pairs


def knot(lows, highs):
    """Some things below one thing, that one below some others, with a least and a greatest thing."""
    many = lows + highs + 3
    middle = lows + 1
    pairs = [(0, a) for a in range(1, middle)] + [(a, middle) for a in range(1, middle)]
    pairs += [(middle, b) for b in range(middle + 1, many - 1)] + [(b, many - 1) for b in range(middle + 1, many - 1)]
    return many, pairs


def stacked(low, high):
    """Two nets, the least thing of the upper one right above the greatest of the lower one."""
    many = low[0]
    pairs = low[1] + [(a + many, b + many) for a, b in high[1]]
    top = [a for a in range(many) if a not in {x for x, y in low[1]}]
    bottom = [b for b in range(high[0]) if b not in {y for x, y in high[1]}]
    return many + high[0], pairs + [(top[0], bottom[0] + many)]


def met_families(source):
    """Families of sets that hold, with two sets, what both have in common: nets, of which most don't spread."""
    while True:
        ground = range(source.randrange(3, 7))
        family = {frozenset(ground)}
        for turn in range(source.randrange(2, 9)):
            part = frozenset(a for a in ground if source.randrange(2))
            family |= {part & other for other in family}
        yield sorted(family, key=sorted)


def all_downsets(many, found):
    """Straight from the document's words, by their sizes, of like sizes by rising tuples."""
    told = []
    for size in range(many + 1):
        for part in itertools.combinations(range(many), size):
            if all(a in part for a, b in found if b in part):
                told.append(part)
    return told


def downset_families(source):
    """All downsets of an order: nets that spread."""
    while True:
        many = source.randrange(2, 7)
        pairs = [tuple(sorted(source.sample(range(many), 2))) for turn in range(source.randrange(1, 2 * many))]
        yield [frozenset(part) for part in all_downsets(many, reached(many, pairs))]


def some_families(families, most):
    told = []
    for family in families:
        if len(family) <= 16:
            told.append(by_inclusion(family))
        if len(told) == most:
            return told


@functools.cache
def few_nets():
    """All nets of 1 to 7 things, their things named in some order or other, up to 6 also from the least upwards."""
    source = random.Random(21)
    told = {}
    for many in range(1, 8):
        able = list(itertools.combinations(range(1, many - 1), 2))
        ends = [(0, a) for a in range(many)] + [(a, many - 1) for a in range(many)]
        for marks in itertools.product((False, True), repeat=len(able)):
            found = reached(many, ends + [pair for pair, mark in zip(able, marks) if mark])
            if told_lacking(many, found) is None:
                told[many, tuple(covers(found))] = True
    upwards = [(many, list(pairs)) for many, pairs in told if many < 7]
    return upwards + [renamed(many, pairs, source) for many, pairs in told]


@functools.cache
def big_nets():
    """Nets of up to 16 things, their things named in some order or other."""
    source = random.Random(22)
    nets = [(many, CHAIN[:many - 1]) for many in range(8, 17)]
    nets += [(16, CUBE), grid(2, 8), grid(4, 4), grid(3, 5), grid(2, 2, 4), grid(3, 4)]
    nets += [fan([1] * length) for length in range(3, 15)]
    nets += [fan([1, 2]), fan([1, 13]), fan([7, 7]), fan([2, 3, 4]), fan([6, 2, 6])]
    nets += [knot(7, 6), knot(2, 2), knot(12, 1), knot(1, 12)]
    nets += [stacked(grid(2, 4), grid(2, 4)), stacked(fan([1, 1, 1]), fan([1, 2])), stacked(grid(3, 3), fan([1, 2, 1]))]
    nets += some_families(met_families(source), 40) + some_families(downset_families(source), 20)
    return nets + [renamed(many, pairs, source) for many, pairs in nets]


def all_nets():
    return few_nets() + big_nets()


@functools.cache
def other_orders():
    """Orders that are no nets."""
    source = random.Random(23)
    orders = few_orders() + list(many_things()) + [(16, CROWD), (16, []), (16, CHAIN[:14]), (16, CHAIN[1:])]
    orders += [renamed(16, [pair for pair in CUBE if pair != gone], source) for gone in CUBE]
    return [(many, pairs) for many, pairs in orders if told_lacking(many, reached(many, pairs)) is not None]


def told_meet(many, found, a, b):
    both = [c for c in range(many) if (c, a) in found and (c, b) in found]
    able = [m for m in both if all((c, m) in found for c in both)]
    return able[0] if able else None


def told_join(many, found, a, b):
    both = [c for c in range(many) if (a, c) in found and (b, c) in found]
    able = [j for j in both if all((j, c) in found for c in both)]
    return able[0] if able else None


def told_lacking(many, found):
    for a, b in itertools.combinations(range(many), 2):
        if told_meet(many, found, a, b) is None:
            return a, b, "meet"
        if told_join(many, found, a, b) is None:
            return a, b, "join"
    return None


def told_tables(many, found):
    pairs = list(itertools.product(range(many), repeat=2))
    meets = {(a, b): told_meet(many, found, a, b) for a, b in pairs}
    joins = {(a, b): told_join(many, found, a, b) for a, b in pairs}
    return meets, joins


def told_breach(many, found):
    meets, joins = told_tables(many, found)
    for a, b, c in itertools.product(range(many), repeat=3):
        if meets[a, joins[b, c]] != joins[meets[a, b], meets[a, c]]:
            return a, b, c
    return None


def told_plain(many, found):
    right = covers(found)
    return [b for b in range(many) if len([x for x, y in right if y == b]) == 1]


class OrderCase(unittest.TestCase):
    def refuses(self, kind, call, *args):
        """The call is refused with this kind, caught under its bases, and none of the other seven."""
        with self.assertRaises(errors.OrderError) as caught:
            call(*args)
        self.assertIsInstance(caught.exception, ValueError)
        for name in KINDS:
            other = getattr(errors, name)
            self.assertEqual(isinstance(caught.exception, other), other is kind, name)
