import itertools
import unittest

from common import (CHAIN, CROWD, CUBE, HUGE, OrderCase, all_nets, belows, big_nets, fan, few_nets, few_orders, knot,
                    many_things, other_orders, reached, stacked, told_breach, told_join, told_lacking, told_meet,
                    told_tables)
from meetjoin.errors import NoThing, NotNet
from meetjoin.nets import breach, inner, join, lacking, meet
from meetjoin.order import Order, turned

# Two things without any common thing, and two pairs that are crosswise below one another.
APART = (2, [])
CROSSED = (4, [(0, 2), (0, 3), (1, 2), (1, 3)])
DIAMOND = (5, [(0, 1), (0, 2), (0, 3), (1, 4), (2, 4), (3, 4)])
PENTAGON = (5, [(0, 1), (1, 2), (2, 4), (0, 3), (3, 4)])


class MeetJoinTest(OrderCase):
    def check_all(self, many, pairs):
        order = Order(many, pairs)
        found = reached(many, pairs)
        for a, b in itertools.product(range(many), repeat=2):
            self.assertEqual(meet(order, a, b), told_meet(many, found, a, b), (pairs, a, b))
            self.assertEqual(join(order, a, b), told_join(many, found, a, b), (pairs, a, b))

    def test_every_order_of_few_things(self):
        for many, pairs in few_orders():
            self.check_all(many, pairs)

    def test_orders_of_many_things(self):
        for many, pairs in many_things():
            self.check_all(many, pairs)
        for pairs in (CHAIN, CUBE, CROWD, []):
            self.check_all(16, pairs)

    def test_nets(self):
        for many, pairs in big_nets():
            self.check_all(many, pairs)

    def test_sets_of_four(self):
        order = Order(16, CUBE)
        for a, b in itertools.product(range(16), repeat=2):
            self.assertEqual(meet(order, a, b), a & b)
            self.assertEqual(join(order, a, b), a | b)

    def test_either_way_round_and_with_itself(self):
        for many, pairs in list(many_things()) + big_nets():
            order = Order(many, pairs)
            for a in range(many):
                self.assertEqual(meet(order, a, a), a)
                self.assertEqual(join(order, a, a), a)
                for b in range(a):
                    self.assertEqual(meet(order, a, b), meet(order, b, a))
                    self.assertEqual(join(order, a, b), join(order, b, a))

    def test_one_below_the_other(self):
        order = Order(3, [(2, 1), (1, 0)])
        self.assertEqual(meet(order, 0, 2), 2)
        self.assertEqual(join(order, 0, 2), 0)

    def test_thing_nought_is_no_none(self):
        order = Order(3, [(0, 1), (0, 2)])
        self.assertIs(type(meet(order, 1, 2)), int)
        self.assertEqual(meet(order, 1, 2), 0)
        self.assertIsNone(join(order, 1, 2))

    def test_no_common_thing(self):
        for many in (2, 5, 16):
            order = Order(many, [])
            self.assertIsNone(meet(order, 0, many - 1))
            self.assertIsNone(join(order, 0, many - 1))

    def test_several_with_none_that_all_are_below(self):
        order = Order(*CROSSED)
        self.assertIsNone(meet(order, 2, 3))
        self.assertIsNone(join(order, 0, 1))
        order = Order(6, [(4, 0), (4, 1), (0, 2), (0, 3), (1, 2), (1, 3), (2, 5), (3, 5)])
        self.assertIsNone(meet(order, 2, 3))
        self.assertIsNone(join(order, 0, 1))
        self.assertEqual(meet(order, 0, 1), 4)
        self.assertEqual(join(order, 2, 3), 5)

    def test_only_one_of_the_two(self):
        order = Order(3, [(0, 2), (1, 2)])
        self.assertIsNone(meet(order, 0, 1))
        self.assertEqual(join(order, 0, 1), 2)

    def test_tells_whole_numbers(self):
        order = Order(16, CUBE)
        for a, b in itertools.product(range(16), repeat=2):
            self.assertIs(type(meet(order, a, b)), int)
            self.assertIs(type(join(order, a, b)), int)

    def test_thing_that_is_not_there(self):
        for many, pairs in ((1, []), (2, []), (4, [(0, 1)]), (16, CHAIN), (16, CUBE), (16, CROWD)):
            order = Order(many, pairs)
            for wrong in (-HUGE, -many - 1, -many, -1, many, many + 1, 100, HUGE):
                for told in (meet, join):
                    for right in range(many):
                        self.refuses(NoThing, told, order, wrong, right)
                        self.refuses(NoThing, told, order, right, wrong)
                    self.refuses(NoThing, told, order, wrong, wrong)


class LackingTest(OrderCase):
    def test_nets(self):
        for many, pairs in all_nets():
            self.assertIsNone(lacking(Order(many, pairs)), pairs)

    def test_one_thing(self):
        self.assertIsNone(lacking(Order(1, [])))
        self.assertIsNone(lacking(Order(1, [(0, 0)])))

    def test_other_orders(self):
        for many, pairs in other_orders():
            self.assertEqual(lacking(Order(many, pairs)), told_lacking(many, reached(many, pairs)), pairs)

    def test_every_order_of_few_things(self):
        for many, pairs in few_orders():
            self.assertEqual(lacking(Order(many, pairs)), told_lacking(many, reached(many, pairs)), pairs)

    def test_both_lack(self):
        self.assertEqual(lacking(Order(*APART)), (0, 1, "meet"))
        self.assertEqual(lacking(Order(16, [])), (0, 1, "meet"))

    def test_only_a_join_lacks(self):
        self.assertEqual(lacking(Order(3, [(0, 1), (0, 2)])), (1, 2, "join"))
        self.assertEqual(lacking(Order(3, [(2, 0), (2, 1)])), (0, 1, "join"))

    def test_only_a_meet_lacks(self):
        self.assertEqual(lacking(Order(3, [(1, 0), (2, 0)])), (1, 2, "meet"))

    def test_first_pair_goes_by_the_first_thing_first(self):
        # 1 and 2 lack a join too, but the pair with the lesser first thing comes first.
        order = Order(6, [(3, 0), (3, 4), (4, 5), (0, 1), (0, 2)])
        self.assertEqual(lacking(order), (0, 4, "join"))
        self.assertEqual(lacking(Order(16, CHAIN[:14])), (0, 15, "meet"))

    def test_a_join_that_lacks_earlier_comes_ahead_of_a_meet(self):
        # 0 and 1 have the meet 2 and no join; 3 and 4 lack both.
        self.assertEqual(lacking(Order(5, [(2, 0), (2, 1)])), (0, 1, "join"))

    def test_tells_a_tuple(self):
        for many, pairs in (APART, CROSSED):
            self.assertIs(type(lacking(Order(many, pairs))), tuple)


class BreachTest(OrderCase):
    def test_nets(self):
        for many, pairs in all_nets():
            self.assertEqual(breach(Order(many, pairs)), told_breach(many, reached(many, pairs)), pairs)

    def test_nets_that_spread(self):
        for many, pairs in ((1, []), (2, [(1, 0)]), (4, [(0, 1), (0, 2), (1, 3), (2, 3)]), (16, CHAIN), (16, CUBE)):
            self.assertIsNone(breach(Order(many, pairs)))

    def test_first_triple(self):
        self.assertEqual(breach(Order(*DIAMOND)), (1, 2, 3))
        # 2 meets the join of 1 and 3 in itself, but the join of the meets is 1.
        self.assertEqual(breach(Order(*PENTAGON)), (2, 1, 3))
        # The same, with its things named the other way.
        self.assertEqual(breach(Order(5, [(4, 3), (3, 2), (2, 0), (4, 1), (1, 0)])), (2, 1, 3))

    def test_tells_a_tuple(self):
        self.assertIs(type(breach(Order(*DIAMOND))), tuple)

    def test_other_orders(self):
        for many, pairs in other_orders():
            self.refuses(NotNet, breach, Order(many, pairs))

    def test_breach_in_what_is_no_net(self):
        order = Order(6, DIAMOND[1])
        self.refuses(NotNet, breach, order)
        self.refuses(NotNet, inner, order)


class InnerTest(OrderCase):
    def check_stands(self, many, pairs, told):
        self.assertIs(type(told), tuple)
        word, a, b, c = told
        found = reached(many, pairs)
        meets, joins = told_tables(many, found)
        if word == "side by side":
            self.assertEqual(len({a, b, c}), 3)
            self.assertEqual(len({meets[a, b], meets[a, c], meets[b, c]}), 1)
            self.assertEqual(len({joins[a, b], joins[a, c], joins[b, c]}), 1)
        else:
            self.assertEqual(word, "askew")
            self.assertNotEqual(a, b)
            self.assertIn((a, b), found)
            self.assertEqual(meets[a, c], meets[b, c])
            self.assertEqual(joins[a, c], joins[b, c])

    def check_inner(self, many, pairs):
        told = inner(Order(many, pairs))
        if told_breach(many, reached(many, pairs)) is None:
            self.assertIsNone(told, pairs)
            return None
        self.assertIsNotNone(told, pairs)
        self.check_stands(many, pairs, told)
        return told[0]

    def test_nets(self):
        words = {self.check_inner(many, pairs) for many, pairs in all_nets()}
        self.assertEqual(words, {None, "side by side", "askew"})

    def test_only_side_by_side(self):
        for length in range(3, 15):
            self.assertEqual(self.check_inner(*fan([1] * length)), "side by side")

    def test_only_askew(self):
        for low, high in ((1, 2), (2, 1), (1, 13), (7, 7), (13, 1)):
            self.assertEqual(self.check_inner(*fan([low, high])), "askew")

    def test_things_named_in_every_order(self):
        for names in itertools.permutations(range(5)):
            for (many, pairs), word in ((DIAMOND, "side by side"), (PENTAGON, "askew")):
                other = [(names[a], names[b]) for a, b in pairs]
                self.assertEqual(self.check_inner(many, other), word, other)

    def test_far_up_in_a_net(self):
        chain = (11, CHAIN[:10])
        self.assertEqual(self.check_inner(*stacked(chain, DIAMOND)), "side by side")
        self.assertEqual(self.check_inner(*stacked(chain, PENTAGON)), "askew")
        self.assertEqual(self.check_inner(*stacked(DIAMOND, chain)), "side by side")
        self.assertEqual(self.check_inner(*stacked(PENTAGON, chain)), "askew")

    def test_nets_that_spread(self):
        for many, pairs in ((1, []), (2, [(0, 1)]), (16, CHAIN), (16, CUBE), knot(2, 2)):
            self.assertIsNone(inner(Order(many, pairs)))

    def test_other_orders(self):
        for many, pairs in other_orders():
            self.refuses(NotNet, inner, Order(many, pairs))


class TurnedTest(OrderCase):
    def check_swapped(self, many, pairs):
        order = Order(many, pairs)
        other = turned(order)
        for a, b in itertools.product(range(many), repeat=2):
            self.assertEqual(meet(other, a, b), join(order, a, b), pairs)
            self.assertEqual(join(other, a, b), meet(order, a, b), pairs)
        self.assertEqual(lacking(other) is None, lacking(order) is None, pairs)

    def test_meets_and_joins(self):
        for many, pairs in few_orders() + list(many_things()) + big_nets():
            self.check_swapped(many, pairs)

    def test_is_a_net_and_spreads_where_the_order_does(self):
        for many, pairs in few_nets()[::5] + big_nets():
            order = Order(many, pairs)
            other = turned(order)
            self.assertIsNone(lacking(other))
            self.assertEqual(breach(other) is None, breach(order) is None, pairs)
            self.assertEqual(inner(other) is None, inner(order) is None, pairs)

    def test_is_no_net_where_the_order_is_none(self):
        for many, pairs in other_orders():
            other = turned(Order(many, pairs))
            self.assertIsNotNone(lacking(other))
            self.refuses(NotNet, breach, other)
            self.refuses(NotNet, inner, other)


class OwnTest(OrderCase):
    def test_orders_that_are_handed_in_stay(self):
        for many, pairs in few_nets()[:40] + [(16, CHAIN), (16, CUBE), DIAMOND, PENTAGON]:
            order = Order(many, pairs)
            before = belows(order)
            told = [told_of(order) for told_of in (lacking, breach, inner)]
            meet(order, 0, many - 1)
            join(order, 0, many - 1)
            self.assertEqual(belows(order), before)
            self.assertEqual([told_of(order) for told_of in (lacking, breach, inner)], told)

    def test_one_order_does_not_bear_on_another(self):
        first = Order(*DIAMOND)
        second = Order(*PENTAGON)
        self.assertEqual(inner(first)[0], "side by side")
        self.assertEqual(inner(second)[0], "askew")
        self.assertIsNone(inner(Order(5, CHAIN[:4])))
        self.assertEqual(inner(first)[0], "side by side")


if __name__ == "__main__":
    unittest.main()
