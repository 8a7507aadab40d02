"""Tests of countededges.cheapest."""

import itertools
import random
import unittest

from countededges.cheapest import cheapest, cost_of, wished
from countededges.counters import Counters, all_counters
from countededges.errors import BadArgument, BadCosts, BadCounter, NotTold, TooMany
from countededges.lots import Lot
from countededges.programs import Program
from tests.points import is_told, tells_all
from tests.samples import (
    ODD_FULL_VALUES, ODD_VALUES, SAME, SOUR, Checks, all_programs, diamond, fork, great_programs, ladder, loop, maze,
    small_programs, split, wheel)

WRONG_PROGRAMS = [*ODD_VALUES, 0, Counters(fork()), Lot.of(fork()), {"x": ("a", "b")}]

# None of these is a dict from counters of fork() to integers above 0; an empty dict is one.
NO_COSTS = [
    *ODD_FULL_VALUES, [], (), 0, 5, "costs", [("runs",)], [(("runs",), 1)], Counters(fork(), ("runs",)),
    *[{("runs",): value} for value in [*ODD_VALUES, 0, -1, -10**40, 1.0, "1", [1]]],
    *[{("way", "x"): 1, ("runs",): value} for value in (0, True, None, 2.0)],
    *[{("runs",): 1, key: 1} for key in ("runs", "x", 0, None, (), ("way",), ("way", "w"), ("place", "x"),
                                         ("stop", "a"), ("way", "a"), ("runs", "x"), SAME, (SAME,), ("way", SAME),
                                         frozenset(), (("runs",),))],
]


def programs():
    """The programs that most tests here are about."""
    return [*all_programs(), split(), ladder(2), ladder(3), wheel(3), *small_programs(30),
            *small_programs(15, rings=False)]


def some_costs(program, share, most, seed=1):
    """Costs of some counters of a program, up to a highest one, the same ones each time."""
    chance = random.Random(f"{seed} {share} {most}")
    return {counter: chance.randint(1, most) for counter in all_counters(program) if chance.random() < share}


def sets_within(program, costs):
    """All sets of counters that can be had, each with the sum of its costs."""
    for many in range(len(costs) + 1):
        for chosen in itertools.combinations(costs, many):
            yield sum(costs[counter] for counter in chosen), Counters(program, *chosen)


def wished_by_words(program, costs, targets):
    """All cheapest sets that tell the targets, found by going through all sets."""
    telling = [(cost, one) for cost, one in sets_within(program, costs)
               if all(is_told(one, target) for target in targets)]
    least = min(cost for cost, one in telling)
    order = all_counters(program)
    return sorted((one for cost, one in telling if cost == least),
                  key=lambda one: [order.index(counter) for counter in one.listed()])


class CostTests(Checks):

    def test_sums_of_costs(self):
        costs = {("way", "x"): 3, ("way", "y"): 10**40, ("place", "a"): 5, ("stop", "b"): 1, ("runs",): 7}
        for chosen, expected in (([], 0), ([("runs",)], 7), ([("way", "x"), ("place", "a")], 8),
                                 ([("stop", "b"), ("way", "y")], 10**40 + 1), (list(costs), 10**40 + 16)):
            told = cost_of(Counters(fork(), *chosen), costs)
            self.assertEqual(told, expected)
            self.assertIs(told.__class__, int)
            self.assertEqual(cost_of(costs=costs, counters=Counters(fork(), *chosen)), expected)

    def test_none_and_no_costs(self):
        self.assertEqual(cost_of(Counters(fork()), {}), 0)
        self.assertEqual(cost_of(Counters(maze()), {("runs",): 1}), 0)

    def test_great_costs(self):
        for program in great_programs():
            costs = {counter: 10**40 for counter in all_counters(program)}
            self.assertEqual(cost_of(Counters.everything(program), costs), len(costs) * 10**40)

    def test_wrong_counters_are_told_first(self):
        for value in [*ODD_VALUES, 0, fork(), [("runs",)], Lot.of(fork())]:
            self.fails(BadArgument, value, cost_of, value, {("runs",): 1})
            self.fails(BadArgument, value, cost_of, value, None)
            self.fails(BadArgument, value, cost_of, costs=SOUR, counters=value)

    def test_wrong_costs(self):
        for value in NO_COSTS:
            self.fails(BadCosts, value, cost_of, Counters(fork()), value)
            self.fails(BadCosts, value, cost_of, Counters(fork(), ("way", "x"), ("runs",)), value)
            self.fails(BadCosts, value, cost_of, costs=value, counters=Counters.everything(fork()))

    def test_counters_that_cannot_be_had(self):
        for chosen, costs, first in (
                ([("runs",)], {}, ("runs",)), ([("way", "x"), ("runs",)], {("way", "x"): 1}, ("runs",)),
                ([("runs",), ("way", "y"), ("way", "x")], {}, ("way", "x")),
                ([("runs",), ("place", "a"), ("way", "x")], {("way", "x"): 2, ("way", "y"): 1}, ("place", "a")),
                ([("stop", "b"), ("place", "b"), ("place", "a")], {("place", "a"): 2}, ("place", "b"))):
            with self.assertRaises(BadCounter) as caught:
                cost_of(Counters(fork(), *chosen), costs)
            self.assertEqual(caught.exception.value, first)

    def test_wrong_costs_are_told_ahead_of_counters_that_cannot_be_had(self):
        wrong = {("way", "x"): 0}
        self.fails(BadCosts, wrong, cost_of, Counters(fork(), ("runs",)), wrong)

    def test_given_costs_stay(self):
        costs = {("way", "x"): 3, ("runs",): 7}
        cost_of(Counters(fork(), ("runs",)), costs)
        self.assertEqual(list(costs.items()), [(("way", "x"), 3), (("runs",), 7)])


class CheapestTests(Checks):

    def is_cheapest(self, program, costs, told):
        """Checks all that point 10 says of a cheapest set."""
        self.assertIs(told.__class__, Counters)
        self.assertEqual(told.program, program)
        self.assertTrue(all(counter in costs for counter in told.listed()))
        self.assertTrue(tells_all(told))
        for counter in costs:
            others = [one for one in told.listed() if one != counter]
            if counter in told:
                self.assertFalse(is_told(Counters(program, *others), counter))
            else:
                cheap = [one for one in others if costs[one] <= costs[counter]]
                self.assertTrue(is_told(Counters(program, *cheap), counter))

    def first_untold(self, program, costs):
        """The first counter that all counters that can be had do not tell, or None."""
        everything = Counters(program, *costs)
        return next((counter for counter in all_counters(program) if not is_told(everything, counter)), None)

    def is_decided(self, program, costs):
        """Checks the cheapest set, or that there is none."""
        missing = self.first_untold(program, costs)
        if missing is None:
            self.is_cheapest(program, costs, cheapest(program, costs))
        else:
            with self.assertRaises(NotTold) as caught:
                cheapest(program, costs)
            self.assertEqual(caught.exception.counter, missing)

    def test_costs_of_all_counters(self):
        for program in programs():
            for most in (1, 2, 5, 10**40):
                self.is_cheapest(program, (costs := some_costs(program, 1, most)), cheapest(program, costs))

    def test_costs_of_some_counters(self):
        for program in programs():
            for share in (0.9, 0.75, 0.5, 0.25):
                for seed in (1, 2):
                    self.is_decided(program, some_costs(program, share, 4, seed))

    def test_no_counters_can_be_had(self):
        for program in [*programs(), *great_programs()]:
            with self.assertRaises(NotTold) as caught:
                cheapest(program, {})
            self.assertEqual(caught.exception.counter, ("way", program.ways()[0]))

    def test_the_first_counter_that_is_not_told(self):
        some = {("way", "x"): 1, ("runs",): 1}
        for costs, first in ((some, ("way", "y")), ({("runs",): 5}, ("way", "x")),
                             ({("way", "x"): 1, ("way", "y"): 1}, ("way", "z"))):
            with self.assertRaises(NotTold) as caught:
                cheapest(fork(), costs)
            self.assertEqual(caught.exception.counter, first)
        ways = {("way", way): 1 for way in maze().ways()}
        with self.assertRaises(NotTold) as caught:
            cheapest(maze(), ways)
        self.assertEqual(caught.exception.counter, ("place", "in"))

    def test_no_set_costs_less(self):
        found = [program for program in programs() if len(all_counters(program)) <= 10]
        self.assertGreater(len(found), 8)
        for program in found:
            for share, most in ((1, 1), (1, 3), (1, 20), (0.8, 4)):
                costs = some_costs(program, share, most)
                telling = [cost for cost, one in sets_within(program, costs) if tells_all(one)]
                if telling:
                    self.assertEqual(cost_of(cheapest(program, costs), costs), min(telling))

    def test_known_sets(self):
        costs = {("way", "x"): 1, ("way", "y"): 1, ("way", "z"): 9, ("stop", "b"): 9, ("runs",): 4, ("place", "a"): 5}
        self.assertEqual(cheapest(fork(), costs), Counters(fork(), ("way", "x"), ("way", "y"), ("runs",)))
        row = Program.row("x", "y")
        self.assertEqual(cheapest(row, {("way", "x"): 3, ("place", "b"): 2, ("runs",): 4}),
                         Counters(row, ("place", "b")))
        self.assertEqual(cheapest(loop(), {("way", "again"): 3, ("place", "home"): 2, ("runs",): 1}),
                         Counters(loop(), ("place", "home"), ("runs",)))

    def test_great_programs(self):
        for program in great_programs():
            for share, most in ((1, 1), (1, 10**40), (0.97, 5)):
                costs = some_costs(program, share, most)
                try:
                    told = cheapest(program, costs)
                except NotTold:
                    continue
                self.assertTrue(tells_all(told))
                self.assertTrue(all(counter in costs for counter in told.listed()))

    def test_the_same_again_whatever_the_order_of_the_keys(self):
        for program in programs()[:20]:
            for most in (1, 2):
                costs = some_costs(program, 1, most)
                turned = dict(reversed(costs.items()))
                self.assertEqual(cheapest(program, costs), cheapest(program, turned))
                self.assertEqual(cheapest(program, costs), cheapest(costs=costs, program=program))

    def test_given_costs_stay_and_are_not_kept(self):
        costs = some_costs(maze(), 1, 5)
        before = list(costs.items())
        told = cheapest(maze(), costs)
        self.assertEqual(list(costs.items()), before)
        listed = told.listed()
        costs.clear()
        self.assertEqual(told.listed(), listed)

    def test_wrong_arguments(self):
        for value in WRONG_PROGRAMS:
            self.fails(BadArgument, value, cheapest, value, {("runs",): 1})
            self.fails(BadArgument, value, cheapest, value, None)
            self.fails(BadArgument, value, cheapest, costs=SOUR, program=value)
        for value in NO_COSTS:
            self.fails(BadCosts, value, cheapest, fork(), value)
            self.fails(BadCosts, value, cheapest, costs=value, program=fork())


class WishedTests(Checks):

    def are_wished(self, program, costs, *targets):
        """Checks the cheapest sets against all sets."""
        told = wished(program, costs, *targets)
        self.only(told, wished_by_words(program, costs, targets))
        self.assertTrue(all(one.__class__ is Counters and one.program == program for one in told))

    def reachable(self, program, costs):
        """The counters that all that can be had tell."""
        return [counter for counter in all_counters(program) if is_told(Counters(program, *costs), counter)]

    def few(self, program, many, most, seed):
        """Costs of at most so many counters."""
        costs = list(some_costs(program, 1, most, seed).items())
        random.Random(seed).shuffle(costs)
        return dict(costs[:many])

    def test_single_targets(self):
        for program in programs():
            for most in (1, 3):
                costs = self.few(program, 6, most, 1)
                for target in self.reachable(program, costs)[::2]:
                    self.are_wished(program, costs, target)

    def test_several_targets(self):
        for program in programs():
            for seed in (1, 2):
                costs = self.few(program, 7, 2, seed)
                targets = self.reachable(program, costs)
                self.are_wished(program, costs, *targets)
                self.are_wished(program, costs, *targets[1::3], *targets[:1], *targets[:1])

    def test_no_target(self):
        for program in [*programs(), *great_programs()]:
            for costs in ({}, {("runs",): 3}, self.few(program, 10, 2, 1)):
                self.only(wished(program, costs), [Counters(program)])

    def test_targets_that_cannot_be_had(self):
        costs = {("way", "x"): 1, ("way", "y"): 1, ("way", "z"): 2, ("stop", "b"): 2}
        self.are_wished(fork(), costs, ("runs",))
        self.only(wished(fork(), costs, ("runs",)), [Counters(fork(), ("stop", "b"))])
        self.are_wished(fork(), costs, ("place", "a"))
        self.only(wished(fork(), costs, ("place", "a"), ("place", "b")), [
            Counters(fork(), ("way", "x"), ("way", "y"))])

    def test_the_order_of_the_sets(self):
        costs = {counter: 1 for counter in all_counters(Program.row("y", "x"))}
        row = Program.row("y", "x")
        expected = [Counters(row, counter) for counter in all_counters(row)]
        self.only(wished(row, costs, ("runs",)), expected)
        self.only(wished(row, dict(reversed(costs.items())), ("place", "b")), expected)
        pair = Program({"p": ("a", "b"), "q": ("a", "b")}, "a", ["b"])
        told = wished(pair, {counter: 1 for counter in all_counters(pair)}, ("way", "p"), ("way", "q"))
        self.only([one.listed() for one in told], [
            [("way", "p"), ("way", "q")], [("way", "p"), ("place", "a")], [("way", "p"), ("place", "b")],
            [("way", "p"), ("stop", "b")], [("way", "p"), ("runs",)], [("way", "q"), ("place", "a")],
            [("way", "q"), ("place", "b")], [("way", "q"), ("stop", "b")], [("way", "q"), ("runs",)]])

    def test_sets_of_unlike_sizes(self):
        costs = {("way", "x"): 1, ("way", "y"): 1, ("place", "b"): 2}
        told = wished(fork(), costs, ("place", "b"))
        self.only([one.listed() for one in told], [[("way", "x"), ("way", "y")], [("place", "b")]])
        costs[("place", "b")] = 3
        self.only([one.listed() for one in wished(fork(), costs, ("place", "b"))], [[("way", "x"), ("way", "y")]])
        costs[("place", "b")] = 1
        self.only([one.listed() for one in wished(fork(), costs, ("place", "b"))], [[("place", "b")]])

    def test_ten_counters_and_eleven(self):
        for program in (maze(), diamond(), split(), *great_programs()):
            known = all_counters(program)
            ten = {counter: 2 for counter in known[-10:]}
            self.assertTrue(all(len(one) == 1 for one in wished(program, ten, ("runs",))))
            self.too_many(11, program, {**ten, known[0]: 1}, ("runs",))
            self.too_many(len(known), program, {counter: 10**40 for counter in known})
        self.are_wished(maze(), {counter: 1 for counter in all_counters(maze())[:10]}, ("way", "go"), ("way", "stay"))

    def too_many(self, number, program, costs, *targets):
        """Checks that there are too many counters, and how many are told."""
        with self.assertRaises(TooMany) as caught:
            wished(program, costs, *targets)
        self.assertIs(caught.exception.__class__, TooMany)
        self.assertEqual(caught.exception.number, number)

    def test_great_costs(self):
        costs = {("way", "x"): 10**40, ("way", "y"): 10**40 - 1, ("place", "b"): 2 * 10**40 - 2, ("runs",): 1}
        self.only([one.listed() for one in wished(fork(), costs, ("place", "b"))], [[("place", "b")]])
        costs[("place", "b")] += 1
        self.assertEqual(len(wished(fork(), costs, ("place", "b"))), 2)

    def test_targets_that_are_not_told(self):
        costs = {("way", "x"): 1, ("runs",): 1}
        for targets, first in (([("way", "y")], ("way", "y")), ([("stop", "b"), ("place", "b"), ("way", "z")],
                                                                ("place", "b")),
                               ([("way", "x"), ("way", "z"), ("way", "y")], ("way", "z"))):
            with self.assertRaises(NotTold) as caught:
                wished(fork(), costs, *targets)
            self.assertEqual(caught.exception.counter, first)
        with self.assertRaises(NotTold):
            wished(fork(), {}, ("runs",))

    def test_wrong_targets(self):
        costs = {("way", "x"): 1, ("runs",): 1}
        for value in [*ODD_VALUES, 0, "runs", "x", ["runs"], ("way",), ("way", "w"), ("way", "a"), ("place", "x"),
                      ("stop", "a"), ("way", SAME), (SOUR, "x"), ("runs", "x"), ("x",), Counters(fork(), ("runs",))]:
            self.fails(BadCounter, value, wished, fork(), costs, value)
            self.fails(BadCounter, value, wished, fork(), costs, ("runs",), value, None)
            self.fails(BadCounter, value, wished, fork(), costs, ("way", "y"), value)

    def test_wrong_programs_and_costs(self):
        for value in WRONG_PROGRAMS:
            self.fails(BadArgument, value, wished, value, {("runs",): 1}, ("runs",))
            self.fails(BadArgument, value, wished, value, None, None)
            self.fails(BadArgument, value, wished, costs=SOUR, program=value)
        for value in NO_COSTS:
            self.fails(BadCosts, value, wished, fork(), value, ("runs",))
            self.fails(BadCosts, value, wished, fork(), value, None)
            self.fails(BadCosts, value, wished, costs=value, program=fork())

    def test_what_is_told_first(self):
        known = all_counters(maze())
        eleven = {counter: 1 for counter in known[:11]}
        wrong = {**eleven, known[0]: 0}
        self.fails(BadCosts, wrong, wished, maze(), wrong, None)
        self.too_many(11, maze(), eleven, None)
        self.too_many(11, maze(), eleven, ("way", "none"))

    def test_given_costs_stay(self):
        costs = {("way", "y"): 1, ("way", "x"): 1, ("place", "b"): 2}
        told = wished(costs=costs, program=fork())
        told.clear()
        told = wished(fork(), costs, ("place", "b"))
        self.assertEqual(list(costs.items()), [(("way", "y"), 1), (("way", "x"), 1), (("place", "b"), 2)])
        costs.clear()
        self.assertEqual(len(told), 2)
        told.clear()
        again = wished(fork(), {("way", "x"): 1, ("way", "y"): 1, ("place", "b"): 2}, ("place", "b"))
        self.assertEqual(len(again), 2)


if __name__ == "__main__":
    unittest.main()
