import copy
import unittest

from lookdown.alone import own
from lookdown.books import Book
from lookdown.choices import chosen, cost, is_choice, needed, plan_by
from lookdown.errors import BadChooser, NoChoice, NoWeb, NoWishes
from lookdown.plans import is_plan, needless, price
from lookdown.things import makeable, needs
from lookdown.webs import Web, part_web
from tests.samples import (
    CHAIN,
    DOUBLES,
    DOUBLING,
    EMPTY_BOOK,
    EMPTY_WEB,
    MOVING,
    STEPS,
    STEPS_OWN,
    all_choices,
    all_lots,
    all_needed,
    nested,
    random_book,
    random_web,
    strange_objects,
    strange_tuples,
)
from tests.test_plans import NO_WEBS, NO_WISHES


def without(choice, thing):
    return {each: way for each, way in choice.items() if each != thing}


NO_CHOICES = [
    {},
    *[without(STEPS_OWN, thing) for thing in STEPS_OWN],
    {**STEPS_OWN, (0, 2): ("rule", 0)},
    {**STEPS_OWN, (2, 0): ("rule", 4)},
    {**STEPS_OWN, (3, 0): ("rule", 0)},
    {**STEPS_OWN, None: None},
    {**without(STEPS_OWN, (0, 0)), (2, 0): ("rule", 0)},
    {**without(STEPS_OWN, (0, 0)), "00": ("rule", 0)},
    {**without(STEPS_OWN, (0, 0)), nested(lambda inner: (inner,), 39): ("rule", 0)},
    {**STEPS_OWN, (0, 0): ("rule", 1)},
    {**STEPS_OWN, (2, 2): ("rule", 2)},
    {**STEPS_OWN, (2, 2): ("rule", 6)},
    {**STEPS_OWN, (2, 2): ("rule", -2)},
    {**STEPS_OWN, (0, 0): ("rule", False)},
    {**STEPS_OWN, (0, 1): ("rule", True)},
    {**STEPS_OWN, (0, 0): ("move", 0)},
    {**STEPS_OWN, (0, 0): ("Rule", 0)},
    {**STEPS_OWN, (0, 0): (b"rule", 0)},
    {**STEPS_OWN, (0, 0): ["rule", 0]},
    {**STEPS_OWN, (0, 0): ("rule",)},
    {**STEPS_OWN, (0, 0): ("rule", 0, 0)},
    {**STEPS_OWN, (0, 0): None},
    tuple(STEPS_OWN.items()),
    list(STEPS_OWN.items()),
    list(STEPS_OWN),
    STEPS_OWN.items(),
    *strange_objects(),
    *[odd for odd in strange_tuples() if odd != ()],
    *[{**STEPS_OWN, (2, 2): odd} for odd in strange_objects() + strange_tuples()],
    *[{**STEPS_OWN, (2, 2): ("rule", odd)} for odd in strange_objects()],
    *[{**STEPS_OWN, (2, 2): (odd, 4)} for odd in strange_objects() if odd != "rule"],
]

# Kind 0 comes by a rule; kinds 1 and 2 lead to one another, and 3 hangs on 2.
ROUND = Book((0,), 4, ((0, (), 0, 1), (0, (), 1, 5)), ((1, 2, 1), (2, 1, 1), (2, 3, 1), (0, 1, 1)))
ROUND_WEB = Web(((0, ()),))
ROUND_WAYS = {(0, 0): ("rule", 0), (0, 1): ("move", 1), (0, 2): ("move", 0), (0, 3): ("move", 2)}


class IsChoiceTest(unittest.TestCase):
    def test_right_ones(self):
        self.assertIs(is_choice(CHAIN, STEPS, STEPS_OWN), True)
        self.assertIs(is_choice(CHAIN, STEPS, {**STEPS_OWN, (2, 2): ("rule", 5)}), True)
        backwards = {thing: STEPS_OWN[thing] for thing in sorted(STEPS_OWN, reverse=True)}
        self.assertIs(is_choice(CHAIN, STEPS, backwards), True)

    def test_webs_without_makeable_things(self):
        self.assertIs(is_choice(CHAIN, EMPTY_WEB, {}), True)
        self.assertIs(is_choice(EMPTY_BOOK, Web(((0, ()),)), {}), True)
        self.assertIs(is_choice(EMPTY_BOOK, Web(((0, ()),)), {(0, 0): ("rule", 0)}), False)
        self.assertIs(is_choice(CHAIN, EMPTY_WEB, None), False)

    def test_no_choices(self):
        for odd in NO_CHOICES:
            self.assertIs(is_choice(CHAIN, STEPS, odd), False)

    def test_a_way_that_is_not_usable(self):
        # Kinds 2 and 3 of a leaf lead to one another, and nothing gives either.
        told = {(0, 0): ("rule", 0), (0, 1): ("rule", 1)}
        web = Web(((0, ()),))
        self.assertIs(is_choice(MOVING, web, told), True)
        self.assertIs(is_choice(MOVING, web, {**told, (0, 2): ("move", 3), (0, 3): ("move", 2)}), False)
        book = Book((0,), 3, ((0, (), 0, 1),), ((0, 1, 1), (2, 1, 1)))
        self.assertIs(is_choice(book, web, {(0, 0): ("rule", 0), (0, 1): ("move", 0)}), True)
        self.assertIs(is_choice(book, web, {(0, 0): ("rule", 0), (0, 1): ("move", 1)}), False)

    def test_moves_that_lead_round(self):
        web = Web(((0, ()),))
        for first, second, right in [
            (("rule", 0), ("rule", 1), True),
            (("move", 1), ("rule", 1), True),
            (("rule", 0), ("move", 0), True),
            (("move", 1), ("move", 0), False),
        ]:
            self.assertIs(is_choice(MOVING, web, {(0, 0): first, (0, 1): second}), right)
        self.assertIs(is_choice(ROUND, ROUND_WEB, ROUND_WAYS), False)
        self.assertIs(is_choice(ROUND, ROUND_WEB, {**ROUND_WAYS, (0, 1): ("move", 3)}), True)
        self.assertIs(is_choice(ROUND, ROUND_WEB, {**ROUND_WAYS, (0, 1): ("rule", 1)}), True)

    def test_a_ring_of_all_kinds(self):
        moves = tuple((kind, (kind + 1) % 5, 1) for kind in range(5))
        rules = tuple((0, (), kind, 1) for kind in range(5))
        book = Book((0,), 5, rules, moves)
        web = Web(((0, ()), (0, ())))
        ring = {(0, kind): ("move", (kind - 1) % 5) for kind in range(5)}
        ruled = {(1, kind): ("rule", kind) for kind in range(5)}
        self.assertIs(is_choice(book, web, {**ring, **ruled}), False)
        for kind in range(5):
            self.assertIs(is_choice(book, web, {**ring, **ruled, (0, kind): ("rule", kind)}), True)

    def test_against_the_walk(self):
        for seed in range(60):
            book = random_book(seed)
            web = random_web(seed, book, 3)
            for choice in all_choices(book, web, 200):
                self.assertIs(is_choice(book, web, choice), True)

    def test_no_web_comes_first(self):
        for odd in NO_WEBS:
            with self.assertRaises(NoWeb):
                is_choice(CHAIN, odd, STEPS_OWN)
        for odd in [None, STEPS, MOVING, *strange_objects()]:
            if odd is not CHAIN:
                with self.assertRaises(NoWeb):
                    is_choice(odd, STEPS, STEPS_OWN)

    def test_nothing_is_changed(self):
        told = {**STEPS_OWN, (2, 2): ["rule", [4]]}
        kept = copy.deepcopy(told)
        is_choice(CHAIN, STEPS, told)
        self.assertEqual(told, kept)


class NeededTest(unittest.TestCase):
    def test_examples(self):
        self.assertEqual(needed(CHAIN, STEPS, STEPS_OWN, ()), ())
        self.assertEqual(needed(CHAIN, STEPS, STEPS_OWN, ((0, 0),)), ((0, 0),))
        self.assertEqual(needed(CHAIN, STEPS, STEPS_OWN, ((2, 2),)), ((0, 0), (1, 0), (2, 2)))
        both = ((0, 0), (0, 1), (1, 0), (1, 1), (2, 2))
        self.assertEqual(needed(CHAIN, STEPS, STEPS_OWN, ((1, 1), (2, 2))), both)
        other = {**STEPS_OWN, (2, 2): ("rule", 5)}
        self.assertEqual(needed(CHAIN, STEPS, other, ((2, 2),)), ((0, 1), (1, 1), (2, 2)))

    def test_moves(self):
        choice = {**ROUND_WAYS, (0, 1): ("move", 3)}
        self.assertEqual(needed(ROUND, ROUND_WEB, choice, ((0, 3),)), ((0, 0), (0, 1), (0, 2), (0, 3)))
        self.assertEqual(needed(ROUND, ROUND_WEB, choice, ((0, 1),)), ((0, 0), (0, 1)))

    def test_against_the_walk(self):
        for seed in range(40):
            book = random_book(seed)
            web = random_web(seed, book, 8)
            choice = own(book, web)
            for lot in all_lots(list(choice)[:3] + list(choice)[-3:] if len(choice) > 5 else choice):
                found = set()
                for thing in lot:
                    found |= all_needed(book, web, choice, thing)
                self.assertEqual(needed(book, web, choice, lot), tuple(sorted(found)))


class PlanByTest(unittest.TestCase):
    def test_examples(self):
        self.assertEqual(plan_by(CHAIN, STEPS, STEPS_OWN, ()), ())
        self.assertEqual(cost(CHAIN, STEPS, STEPS_OWN, ()), 0)
        left = ((0, 0, ("rule", 0)), (1, 0, ("rule", 2)), (2, 2, ("rule", 4)))
        self.assertEqual(plan_by(CHAIN, STEPS, STEPS_OWN, ((2, 2),)), left)
        self.assertEqual(cost(CHAIN, STEPS, STEPS_OWN, ((2, 2),)), 4)
        self.assertEqual(cost(CHAIN, STEPS, STEPS_OWN, ((1, 1), (2, 2))), 6)

    def test_what_is_used_by_many_is_made_once(self):
        choice = {(k, 0): ("rule", 0 if k == 0 else 1) for k in range(5)}
        web = Web(((0, ()), (1, (0, 0)), (1, (1, 0)), (1, (0, 1)), (1, (2, 2))))
        plan = plan_by(DOUBLING, web, choice, ((3, 0), (4, 0)))
        self.assertEqual([making[:2] for making in plan], [(k, 0) for k in range(5)])
        self.assertEqual(cost(DOUBLING, web, choice, ((3, 0), (4, 0))), 5)

    def test_the_least_that_can_be_made_is_next(self):
        choice = {**ROUND_WAYS, (0, 1): ("rule", 1), (0, 0): ("rule", 0)}
        self.assertEqual(
            plan_by(ROUND, ROUND_WEB, choice, ((0, 0), (0, 3))),
            ((0, 0, ("rule", 0)), (0, 1, ("rule", 1)), (0, 2, ("move", 0)), (0, 3, ("move", 2))),
        )
        # Kind 0 comes by kind 2, so kind 1 of the value and then kind 2 are made ahead of it.
        book = Book((0, 1), 3, ((0, (), 1, 1), (0, (), 2, 1), (1, (0,), 0, 1)), ((2, 0, 1),))
        web = Web(((0, ()), (0, ()), (1, (0,))))
        told = own(book, web)
        plan = plan_by(book, web, told, tuple(sorted(told)))
        order = [(0, 1), (0, 2), (0, 0), (1, 1), (1, 2), (1, 0), (2, 0)]
        self.assertEqual([making[:2] for making in plan], order)

    def test_against_the_words(self):
        for seed in range(60):
            book = random_book(seed)
            web = random_web(seed, book, 6)
            for choice in [own(book, web), *all_choices(book, web, 100)[:5]]:
                wishes = tuple(sorted(choice)[::2])
                plan = plan_by(book, web, choice, wishes)
                self.assertTrue(is_plan(book, web, wishes, plan))
                self.assertEqual(needless(book, web, wishes, plan), [])
                self.assertEqual(cost(book, web, choice, wishes), price(book, web, plan))
                left = set(needed(book, web, choice, wishes))
                made = set()
                for value, kind, way in plan:
                    ready = [each for each in left if made.issuperset(needs(book, web, each, choice[each]))]
                    self.assertEqual((value, kind), min(ready))
                    self.assertEqual(way, choice[(value, kind)])
                    left.remove((value, kind))
                    made.add((value, kind))
                self.assertEqual(left, set())

    def test_a_chain_of_200(self):
        choice = {(k, 0): ("rule", min(k, 1)) for k in range(200)}
        things = tuple(sorted(choice))
        self.assertIs(is_choice(DOUBLING, DOUBLES, choice), True)
        self.assertEqual(needed(DOUBLING, DOUBLES, choice, ((199, 0),)), things)
        self.assertEqual([making[:2] for making in plan_by(DOUBLING, DOUBLES, choice, ((199, 0),))], list(things))
        self.assertEqual(cost(DOUBLING, DOUBLES, choice, ((199, 0),)), 200)


class ErrorsTest(unittest.TestCase):
    def test_errors_in_their_order(self):
        for function in [needed, plan_by, cost]:
            for odd in NO_WEBS:
                with self.assertRaises(NoWeb):
                    function(CHAIN, odd, None, None)
            for odd in NO_CHOICES:
                with self.assertRaises(NoChoice):
                    function(CHAIN, STEPS, odd, None)
                with self.assertRaises(NoChoice):
                    function(CHAIN, STEPS, odd, ((2, 2),))
            for odd in NO_WISHES:
                with self.assertRaises(NoWishes):
                    function(CHAIN, STEPS, STEPS_OWN, odd)
            with self.assertRaises(NoChoice):
                function(ROUND, ROUND_WEB, ROUND_WAYS, ((0, 0),))

    def test_nothing_is_changed(self):
        told = dict(STEPS_OWN)
        for function in [needed, plan_by, cost]:
            function(CHAIN, STEPS, told, ((2, 2),))
        self.assertEqual(list(told.items()), list(STEPS_OWN.items()))


class ChosenTest(unittest.TestCase):
    def record(self, book, web, ways):
        """Calls and what chosen returns, or the error that it raises, for a chooser that tells these ways."""
        calls = []
        left = list(ways)

        def chooser(*told):
            calls.append(told)
            return left.pop(0)

        try:
            return (calls, chosen(book, web, chooser))
        except BadChooser as error:
            return (calls, error)

    def test_the_calls(self):
        calls, choice = self.record(CHAIN, STEPS, STEPS_OWN.values())
        self.assertEqual(choice, STEPS_OWN)
        self.assertEqual([kind for _, _, kind in calls], [0, 1, 0, 1, 2])
        for (book, web, _), (value, _) in zip(calls, sorted(STEPS_OWN)):
            self.assertEqual(book, CHAIN)
            self.assertEqual(web, part_web(STEPS, value))

    def test_values_that_are_not_below_are_not_told(self):
        web = Web(((0, ()), (0, ()), (1, (1,)), (2, (2,))))
        calls, _ = self.record(CHAIN, web, [("rule", k) for k in (0, 1, 0, 1, 2, 3, 5)])
        self.assertEqual(calls[-1], (CHAIN, STEPS, 2))
        self.assertEqual(calls[2], (CHAIN, Web(((0, ()),)), 0))

    def test_no_makeable_things(self):
        self.assertEqual(self.record(CHAIN, EMPTY_WEB, []), ([], {}))
        self.assertEqual(self.record(EMPTY_BOOK, Web(((0, ()),)), []), ([], {}))

    def test_things_that_are_not_makeable_are_not_asked_for(self):
        web = Web(((0, ()), (2, (0,)), (1, (1,))))
        calls, choice = self.record(CHAIN, web, [("rule", 0), ("rule", 1), ("rule", 5)])
        self.assertEqual(len(calls), 3)
        self.assertEqual(sorted(choice), list(makeable(CHAIN, web)))

    def test_what_is_no_usable_way(self):
        told = list(STEPS_OWN.values())
        wrong = [("rule", 0), ("rule", 6), ("move", 0), ("rule", True), ["rule", 1], ("rule", 1, 0), "rule"]
        for odd in wrong + strange_objects() + strange_tuples():
            calls, error = self.record(CHAIN, STEPS, [told[0], odd])
            self.assertEqual(len(calls), 2)
            self.assertEqual(error.thing, (0, 1))
        calls, error = self.record(CHAIN, STEPS, [*told[:4], ("rule", 3)])
        self.assertEqual((len(calls), error.thing), (5, (2, 2)))

    def test_a_way_that_gives_it_and_is_not_usable(self):
        book = Book((0,), 3, ((0, (), 0, 1),), ((0, 1, 1), (2, 1, 1)))
        calls, error = self.record(book, Web(((0, ()),)), [("rule", 0), ("move", 1)])
        self.assertEqual((len(calls), error.thing), (2, (0, 1)))

    def test_ways_that_come_back(self):
        calls, error = self.record(ROUND, ROUND_WEB, ROUND_WAYS.values())
        # All are asked, and (0, 3), which only leads to the ring, is not on it.
        self.assertEqual((len(calls), error.thing), (4, (0, 1)))
        twice = Web(((0, ()), (0, ())))
        right = [("rule", 0), ("rule", 1), ("move", 0), ("move", 2)]
        calls, error = self.record(ROUND, twice, right + list(ROUND_WAYS.values()))
        self.assertEqual((len(calls), error.thing), (8, (1, 1)))
        calls, error = self.record(ROUND, twice, list(ROUND_WAYS.values()) * 2)
        self.assertEqual((len(calls), error.thing), (8, (0, 1)))

    def test_a_thing_that_only_leads_to_those_that_come_back(self):
        # (0, 0) leads to (0, 1) and (0, 2), which lead to one another, and (1, 0) to (1, 2).
        book = Book((0,), 3, tuple((0, (), kind, 1) for kind in range(3)), ((1, 2, 1), (2, 1, 1), (1, 0, 1), (2, 0, 1)))
        told = [("move", 2), ("move", 1), ("move", 0)]
        calls, error = self.record(book, Web(((0, ()),)), told)
        self.assertEqual((len(calls), error.thing), (3, (0, 1)))
        right = [("move", 3), ("rule", 1), ("rule", 2)]
        calls, error = self.record(book, Web(((0, ()), (0, ()))), right + [("move", 3), *told[1:]])
        self.assertEqual((len(calls), error.thing), (6, (1, 1)))

    def test_a_wrong_way_behind_ways_that_come_back(self):
        told = list(ROUND_WAYS.values())
        calls, error = self.record(ROUND, ROUND_WEB, told[:3] + [None])
        self.assertEqual((len(calls), error.thing), (4, (0, 3)))

    def test_an_error_of_its_own(self):
        for raised in [KeyError("x"), NoWeb(), BadChooser("mine"), ValueError("x")]:

            def chooser(book, web, kind):
                if kind == 1:
                    raise raised
                return ("rule", 0)

            with self.assertRaises(type(raised)) as caught:
                chosen(CHAIN, STEPS, chooser)
            self.assertIs(caught.exception, raised)

    def test_no_web_comes_first(self):
        for odd in NO_WEBS:
            with self.assertRaises(NoWeb):
                chosen(CHAIN, odd, lambda book, web, kind: self.fail("called"))

    def test_the_own_chooser_is_one(self):
        for seed in range(40):
            book = random_book(seed)
            web = random_web(seed, book, 10)

            def chooser(told, part, kind):
                return own(told, part)[(len(part.rows) - 1, kind)]

            self.assertEqual(chosen(book, web, chooser), own(book, web))


if __name__ == "__main__":
    unittest.main()
