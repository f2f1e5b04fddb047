import itertools
import unittest

from common import (CHAIN, CROWD, CUBE, OrderCase, all_downsets, all_nets, belows, big_nets, covers, fan, few_nets,
                    few_orders, grid, knot, other_orders, reached, stacked, told_breach, told_plain, told_tables)
from meetjoin.errors import NotNet, NotSpread, NoThing, TooMany
from meetjoin.nets import breach, inner, join, lacking, meet
from meetjoin.order import Order
from meetjoin.sets import downsets, net_of, plain, plain_order, sets

SQUARE = (4, [(0, 1), (0, 2), (1, 3), (2, 3)])
DIAMOND = fan([1, 1, 1])
PENTAGON = fan([1, 2])


def told_sets(many, found):
    things = told_plain(many, found)
    return [tuple(p for p in things if (p, a) in found) for a in range(many)]


def spreading_nets():
    return [(many, pairs) for many, pairs in few_nets()[::3] + big_nets()
            if told_breach(many, reached(many, pairs)) is None]


def skewed_nets():
    return [(many, pairs) for many, pairs in few_nets()[::3] + big_nets()
            if told_breach(many, reached(many, pairs)) is not None]


def big_orders():
    """Orders of more things than downsets are told of."""
    for many in range(5, 17):
        yield many, []
        yield many, CHAIN[:many - 1]
    yield 16, CUBE
    yield 16, CROWD


class PlainTest(OrderCase):
    def test_nets(self):
        for many, pairs in all_nets():
            self.assertEqual(plain(Order(many, pairs)), told_plain(many, reached(many, pairs)), pairs)

    def test_ordinary_nets(self):
        self.assertEqual(plain(Order(*SQUARE)), [1, 2])
        self.assertEqual(plain(Order(4, [(3, 0), (3, 2), (0, 1), (2, 1)])), [0, 2])
        self.assertEqual(plain(Order(*DIAMOND)), [2, 3, 4])
        self.assertEqual(plain(Order(*PENTAGON)), [2, 3, 4])
        self.assertEqual(plain(Order(16, CUBE)), [1, 2, 4, 8])
        self.assertEqual(plain(Order(16, CHAIN)), list(range(1, 16)))

    def test_one_thing(self):
        self.assertEqual(plain(Order(1, [])), [])

    def test_two_things(self):
        self.assertEqual(plain(Order(2, [(0, 1)])), [1])
        self.assertEqual(plain(Order(2, [(1, 0)])), [0])

    def test_rising_whatever_the_order_of_the_pairs(self):
        self.assertEqual(plain(Order(16, [(b, a) for a, b in CHAIN])), list(range(15)))

    def test_pairs_that_are_not_right_below_count_nothing(self):
        self.assertEqual(plain(Order(3, [(0, 1), (1, 2), (0, 2)])), [1, 2])

    def test_tells_a_list(self):
        for many, pairs in ((1, []), SQUARE, DIAMOND):
            self.assertIs(type(plain(Order(many, pairs))), list)

    def test_other_orders(self):
        for many, pairs in other_orders():
            self.refuses(NotNet, plain, Order(many, pairs))


class SetsTest(OrderCase):
    def test_nets_that_spread(self):
        for many, pairs in spreading_nets():
            self.assertEqual(sets(Order(many, pairs)), told_sets(many, reached(many, pairs)), pairs)

    def test_ordinary_nets(self):
        self.assertEqual(sets(Order(*SQUARE)), [(), (1,), (2,), (1, 2)])
        self.assertEqual(sets(Order(4, [(3, 0), (3, 2), (0, 1), (2, 1)])), [(0,), (0, 2), (2,), ()])
        self.assertEqual(sets(Order(*grid(2, 3))), [(), (1,), (1, 2), (3,), (1, 3), (1, 2, 3)])

    def test_one_thing(self):
        self.assertEqual(sets(Order(1, [])), [()])

    def test_chain_of_sixteen(self):
        self.assertEqual(sets(Order(16, CHAIN)), [tuple(range(1, a + 1)) for a in range(16)])
        backwards = [tuple(range(a, 15)) for a in range(16)]
        self.assertEqual(sets(Order(16, [(b, a) for a, b in CHAIN])), backwards)

    def test_sets_of_four(self):
        told = [tuple(bit for bit in (1, 2, 4, 8) if a & bit) for a in range(16)]
        self.assertEqual(sets(Order(16, CUBE)), told)

    def test_set_of_the_least_thing_is_empty(self):
        for many, pairs in spreading_nets():
            uppers = {b for a, b in pairs}
            least = [a for a in range(many) if a not in uppers]
            told = sets(Order(many, pairs))
            self.assertEqual([told[a] for a in least], [()])

    def test_meets_joins_and_unlike_sets(self):
        for many, pairs in spreading_nets():
            told = [set(part) for part in sets(Order(many, pairs))]
            meets, joins = told_tables(many, reached(many, pairs))
            for a, b in itertools.product(range(many), repeat=2):
                self.assertEqual(told[meets[a, b]], told[a] & told[b], pairs)
                self.assertEqual(told[joins[a, b]], told[a] | told[b], pairs)
                self.assertEqual(told[a] == told[b], a == b, pairs)

    def test_tells_a_list_of_tuples(self):
        told = sets(Order(16, CUBE))
        self.assertIs(type(told), list)
        self.assertEqual({type(part) for part in told}, {tuple})

    def test_other_orders(self):
        for many, pairs in other_orders():
            self.refuses(NotNet, sets, Order(many, pairs))

    def test_nets_that_do_not_spread(self):
        for many, pairs in [DIAMOND, PENTAGON] + skewed_nets():
            self.refuses(NotSpread, sets, Order(many, pairs))

    def test_not_net_comes_ahead_of_not_spread(self):
        for many, pairs in (DIAMOND, PENTAGON):
            self.refuses(NotNet, sets, Order(many + 1, pairs))
            self.refuses(NotNet, sets, Order(many + 2, pairs + [(1, many), (1, many + 1)]))


class DownsetsTest(OrderCase):
    def test_every_order_of_few_things(self):
        for many, pairs in few_orders():
            self.assertEqual(downsets(Order(many, pairs)), all_downsets(many, reached(many, pairs)), pairs)

    def test_ordinary_orders(self):
        self.assertEqual(downsets(Order(1, [])), [(), (0,)])
        self.assertEqual(downsets(Order(2, [])), [(), (0,), (1,), (0, 1)])
        self.assertEqual(downsets(Order(2, [(1, 0)])), [(), (1,), (0, 1)])
        self.assertEqual(downsets(Order(3, [(2, 0), (2, 1)])), [(), (2,), (0, 2), (1, 2), (0, 1, 2)])
        self.assertEqual(downsets(Order(4, CHAIN[:3])), [(), (0,), (0, 1), (0, 1, 2), (0, 1, 2, 3)])

    def test_no_two_below_one_another(self):
        told = downsets(Order(4, []))
        self.assertEqual(told, [(), (0,), (1,), (2,), (3,), (0, 1), (0, 2), (0, 3), (1, 2), (1, 3), (2, 3),
                                (0, 1, 2), (0, 1, 3), (0, 2, 3), (1, 2, 3), (0, 1, 2, 3)])

    def test_empty_set_first_and_the_whole_last(self):
        for many, pairs in few_orders():
            told = downsets(Order(many, pairs))
            self.assertEqual(told[0], ())
            self.assertEqual(told[-1], tuple(range(many)))

    def test_tells_a_list_of_tuples(self):
        told = downsets(Order(4, [(0, 1)]))
        self.assertIs(type(told), list)
        self.assertEqual({type(part) for part in told}, {tuple})

    def test_too_many(self):
        for many, pairs in big_orders():
            self.refuses(TooMany, downsets, Order(many, pairs))


class NetOfTest(OrderCase):
    def check_net_of(self, many, pairs):
        parts = all_downsets(many, reached(many, pairs))
        net = net_of(Order(many, pairs))
        self.assertIsInstance(net, Order)
        self.assertEqual(net.many(), len(parts))
        places = range(len(parts))
        within = {(a, b) for a in places for b in places if set(parts[a]) <= set(parts[b])}
        self.assertEqual(belows(net), within, pairs)
        return net

    def test_every_order_of_few_things(self):
        for many, pairs in few_orders():
            self.check_net_of(many, pairs)

    def test_no_two_below_one_another(self):
        net = self.check_net_of(4, [])
        self.assertEqual(net.many(), 16)
        self.assertEqual(len(net.right_below()), 32)
        self.assertIs(net.below(0, 15), True)
        self.assertIs(net.below(1, 10), False)

    def test_one_thing(self):
        self.assertEqual(self.check_net_of(1, []).right_below(), [(0, 1)])

    def test_is_a_net_that_spreads(self):
        for many, pairs in few_orders():
            net = net_of(Order(many, pairs))
            self.assertIsNone(lacking(net), pairs)
            self.assertIsNone(breach(net), pairs)
            self.assertIsNone(inner(net), pairs)

    def test_as_many_plain_things_as_the_order_has_things(self):
        for many, pairs in few_orders():
            self.assertEqual(len(plain(net_of(Order(many, pairs)))), many, pairs)

    def test_order_of_its_plain_things_is_the_order(self):
        for many, pairs in few_orders():
            order = Order(many, pairs)
            found = reached(many, pairs)
            parts = downsets(order)
            # A plain downset is all that is below one thing; that thing is the one it stands for.
            lowers = {tuple(a for a in range(many) if (a, b) in found): b for b in range(many)}
            things = [lowers[parts[k]] for k in plain(net_of(order))]
            told = plain_order(net_of(order))
            self.assertEqual({(things[a], things[b]) for a, b in belows(told)}, found, pairs)

    def test_meets_and_joins_of_downsets(self):
        for many, pairs in few_orders()[::6] + [(4, [])]:
            order = Order(many, pairs)
            parts = downsets(order)
            net = net_of(order)
            for a, b in itertools.product(range(len(parts)), repeat=2):
                self.assertEqual(set(parts[meet(net, a, b)]), set(parts[a]) & set(parts[b]))
                self.assertEqual(set(parts[join(net, a, b)]), set(parts[a]) | set(parts[b]))

    def test_too_many(self):
        for many, pairs in big_orders():
            self.refuses(TooMany, net_of, Order(many, pairs))


class PlainOrderTest(OrderCase):
    def check_plain_order(self, many, pairs):
        found = reached(many, pairs)
        things = told_plain(many, found)
        told = plain_order(Order(many, pairs))
        self.assertIsInstance(told, Order)
        self.assertEqual(told.many(), len(things))
        places = range(len(things))
        wanted = {(a, b) for a in places for b in places if (things[a], things[b]) in found}
        self.assertEqual(belows(told), wanted, pairs)
        self.assertEqual(told.right_below(), covers(wanted), pairs)
        return told

    def test_nets(self):
        for many, pairs in all_nets():
            if many > 1:
                self.check_plain_order(many, pairs)

    def test_net_that_spreads(self):
        self.assertEqual(self.check_plain_order(*SQUARE).right_below(), [])
        self.assertEqual(self.check_plain_order(16, CUBE).many(), 4)
        self.assertEqual(self.check_plain_order(*grid(4, 4)).right_below(), [(0, 1), (1, 2), (3, 4), (4, 5)])

    def test_net_that_does_not_spread(self):
        self.assertEqual(self.check_plain_order(*DIAMOND).right_below(), [])
        self.assertEqual(self.check_plain_order(*PENTAGON).right_below(), [(1, 2)])
        self.assertEqual(self.check_plain_order(*stacked(DIAMOND, PENTAGON)).many(), 7)

    def test_chain_of_sixteen(self):
        self.assertEqual(self.check_plain_order(16, CHAIN).right_below(), CHAIN[:14])
        backwards = self.check_plain_order(16, [(b, a) for a, b in CHAIN])
        self.assertEqual(backwards.right_below(), [(k + 1, k) for k in range(14)])

    def test_things_between_that_are_not_plain(self):
        self.assertEqual(len(self.check_plain_order(*knot(7, 6)).right_below()), 42)

    def test_no_plain_thing(self):
        self.refuses(NoThing, plain_order, Order(1, []))
        self.refuses(NoThing, plain_order, Order(1, [(0, 0)]))

    def test_other_orders(self):
        for many, pairs in other_orders():
            self.refuses(NotNet, plain_order, Order(many, pairs))

    def test_as_many_downsets_as_the_net_has_things(self):
        for many, pairs in spreading_nets():
            if many > 1:
                told = plain_order(Order(many, pairs))
                self.assertEqual(len(all_downsets(told.many(), belows(told))), many, pairs)
                if told.many() <= 4:
                    self.assertEqual(len(downsets(told)), many, pairs)
                    self.assertEqual(net_of(told).many(), many, pairs)


class OwnTest(OrderCase):
    def check_own(self, told_of, order):
        before = belows(order)
        first = told_of(order)
        kept = list(first)
        second = told_of(order)
        self.assertIsNot(first, second)
        first.append(first[0])
        first[0] = None
        self.assertEqual(second, kept)
        self.assertEqual(told_of(order), kept)
        first.clear()
        second.clear()
        self.assertEqual(told_of(order), kept)
        self.assertEqual(belows(order), before)

    def test_told_lists_changed_change_nothing(self):
        for many, pairs in (SQUARE, (2, [(0, 1)]), (4, CHAIN[:3])):
            for told_of in (plain, sets, downsets):
                self.check_own(told_of, Order(many, pairs))
        for pairs in (CHAIN, CUBE):
            self.check_own(plain, Order(16, pairs))
            self.check_own(sets, Order(16, pairs))

    def test_empty_lists_are_no_one_list(self):
        order = Order(1, [])
        plain(order).append(0)
        self.assertEqual(plain(order), [])
        self.assertEqual(plain(Order(1, [])), [])

    def test_changed_lists_do_not_bear_on_orders_made_from_them(self):
        order = Order(*SQUARE)
        downsets(order).clear()
        plain(order).clear()
        self.assertEqual(net_of(order).many(), 6)
        self.assertEqual(plain_order(order).many(), 2)

    def test_orders_that_are_handed_in_stay(self):
        for many, pairs in (SQUARE, (2, [(0, 1)]), (4, CHAIN[:3])):
            order = Order(many, pairs)
            before = belows(order)
            for told_of in (plain, sets, downsets, net_of, plain_order):
                told_of(order)
                self.assertEqual(belows(order), before)
                self.assertEqual(order.right_below(), pairs)


if __name__ == "__main__":
    unittest.main()
