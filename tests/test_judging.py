import copy
import unittest

from lookdown.alone import own
from lookdown.books import Book
from lookdown.choices import cost, plan_by
from lookdown.errors import NoChoice, NoWeb
from lookdown.judging import beaten, extras, is_best, undercut
from lookdown.plans import is_plan, price
from lookdown.searching import cheapest
from lookdown.things import makeable, needs
from lookdown.webs import Web
from tests.samples import (
    ALIKE,
    CHAIN,
    DOUBLES,
    DOUBLING,
    EMPTY_BOOK,
    EMPTY_WEB,
    MOVING,
    PAIR,
    SHARED,
    STEPS,
    STEPS_OWN,
    TWICE,
    all_choices,
    all_lots,
    all_needed,
    random_book,
    random_web,
    strange_objects,
    usable,
)
from tests.test_choices import NO_CHOICES, ROUND, ROUND_WAYS, ROUND_WEB
from tests.test_plans import NO_WEBS


def chain(last):
    """As CHAIN, but for the price of the second way of op 2."""
    return Book(CHAIN.arities, 3, CHAIN.rules[:5] + ((2, (1,), 2, last),), ())


def way_price(book, way):
    word, k = way
    return book.moves[k][2] if word == "move" else book.rules[k][3]


def told_extras(book, web, choice):
    """The extras by sets of things."""
    found = {}
    for thing in choice:
        for way in usable(book, web, thing):
            left = set(all_needed(book, web, choice, thing))
            for need in needs(book, web, thing, way):
                left -= all_needed(book, web, choice, need)
            found[(thing, way)] = sum(way_price(book, choice[each]) for each in left)
    return found


class ExtrasTest(unittest.TestCase):
    def test_examples(self):
        told = extras(CHAIN, STEPS, STEPS_OWN)
        self.assertEqual(told[((2, 2), ("rule", 5))], 4)
        self.assertEqual(
            told,
            {
                ((0, 0), ("rule", 0)): 1,
                ((0, 1), ("rule", 1)): 1,
                ((1, 0), ("rule", 2)): 1,
                ((1, 1), ("rule", 3)): 1,
                ((2, 2), ("rule", 4)): 2,
                ((2, 2), ("rule", 5)): 4,
            },
        )
        other = extras(CHAIN, STEPS, {**STEPS_OWN, (2, 2): ("rule", 5)})
        self.assertEqual((other[((2, 2), ("rule", 4))], other[((2, 2), ("rule", 5))]), (5, 3))

    def test_a_part_of_the_needs_alone_is_shared(self):
        choice = {(0, 0): ("rule", 0), (0, 1): ("rule", 1), (1, 0): ("rule", 3)}
        self.assertEqual(extras(TWICE, PAIR, choice)[((1, 0), ("rule", 2))], 8 + 4)
        choice[(1, 0)] = ("rule", 2)
        self.assertEqual(extras(TWICE, PAIR, choice)[((1, 0), ("rule", 3))], 5)

    def test_a_way_that_leads_back_has_none(self):
        choice = {**ROUND_WAYS, (0, 1): ("rule", 1)}
        told = extras(ROUND, ROUND_WEB, choice)
        self.assertEqual(told[((0, 1), ("move", 1))], 0)
        self.assertEqual(told[((0, 1), ("move", 3))], 5)
        self.assertEqual(len(told), 6)

    def test_no_makeable_things(self):
        self.assertEqual(extras(CHAIN, EMPTY_WEB, {}), {})
        self.assertEqual(extras(EMPTY_BOOK, Web(((0, ()),)), {}), {})

    def test_against_sets(self):
        for seed in range(80):
            book = random_book(seed)
            web = random_web(seed, book, 6)
            for choice in [own(book, web), *all_choices(book, web, 100)]:
                told = extras(book, web, choice)
                self.assertEqual(told, told_extras(book, web, choice))
                for thing, way in choice.items():
                    self.assertEqual(told[(thing, way)], way_price(book, way))

    def test_a_new_dict(self):
        extras(CHAIN, STEPS, STEPS_OWN).clear()
        self.assertEqual(len(extras(CHAIN, STEPS, STEPS_OWN)), 6)


class UndercutTest(unittest.TestCase):
    def test_examples(self):
        self.assertEqual(undercut(CHAIN, STEPS, own(CHAIN, STEPS)), ((2, 2), ("rule", 5)))
        self.assertEqual(undercut(CHAIN, STEPS, {**STEPS_OWN, (2, 2): ("rule", 5)}), ((2, 2), ("rule", 4)))
        self.assertIsNone(undercut(CHAIN, EMPTY_WEB, {}))

    def test_just_the_price(self):
        self.assertEqual(extras(chain(4), STEPS, STEPS_OWN)[((2, 2), ("rule", 5))], 4)
        self.assertIsNone(undercut(chain(4), STEPS, STEPS_OWN))
        self.assertEqual(undercut(chain(3), STEPS, STEPS_OWN), ((2, 2), ("rule", 5)))

    def test_the_least_pair(self):
        web = Web(STEPS.rows + ((2, (1,)),))
        choice = {**STEPS_OWN, (3, 2): ("rule", 5)}
        self.assertEqual(undercut(CHAIN, web, choice), ((2, 2), ("rule", 5)))
        self.assertEqual(undercut(chain(4), web, choice), ((3, 2), ("rule", 4)))

    def test_the_least_way(self):
        # Kind 0 for 9 is undercut by a move and two rules; moves come first.
        rules = ((0, (), 1, 1), (0, (), 0, 1), (1, (0,), 0, 9), (1, (1,), 0, 1), (1, (1,), 1, 1))
        web = Web(((0, ()), (1, (0,))))
        choice = {(0, 0): ("rule", 1), (0, 1): ("rule", 0), (1, 0): ("rule", 2), (1, 1): ("rule", 4)}
        self.assertEqual(undercut(Book((0, 1), 2, rules, ()), web, choice), ((1, 0), ("rule", 3)))
        self.assertEqual(undercut(Book((0, 1), 2, rules, ((1, 0, 1),)), web, choice), ((1, 0), ("move", 0)))

    def test_against_extras(self):
        for seed in range(80):
            book = random_book(seed)
            web = random_web(seed, book, 6)
            for choice in [own(book, web), *all_choices(book, web, 100)]:
                pairs = [pair for pair, extra in extras(book, web, choice).items() if extra > way_price(book, pair[1])]
                self.assertEqual(undercut(book, web, choice), min(pairs, default=None))


class IsBestTest(unittest.TestCase):
    def test_examples(self):
        self.assertIs(is_best(CHAIN, STEPS, STEPS_OWN), False)
        self.assertIs(is_best(chain(4), STEPS, STEPS_OWN), True)
        self.assertIs(is_best(CHAIN, Web(STEPS.rows[:2]), {k: STEPS_OWN[k] for k in sorted(STEPS_OWN)[:4]}), True)
        self.assertIs(is_best(CHAIN, EMPTY_WEB, {}), True)

    def test_no_choices(self):
        for odd in NO_CHOICES:
            self.assertIs(is_best(CHAIN, STEPS, odd), False)
        self.assertIs(is_best(ROUND, ROUND_WEB, ROUND_WAYS), False)

    def test_the_first_fact(self):
        many = {True: 0, False: 0}
        for seed in range(250):
            book = random_book(seed)
            web = random_web(seed, book, 4)
            things = makeable(book, web)
            if len(things) > 6:
                continue
            least = {wishes: cheapest(book, web, wishes)[0] for wishes in all_lots(things)}
            for choice in all_choices(book, web, 40):
                never_beaten = all(cost(book, web, choice, wishes) == least[wishes] for wishes in least)
                self.assertIs(is_best(book, web, choice), never_beaten)
                many[never_beaten] += 1
        self.assertGreater(min(many.values()), 30)


class BeatenTest(unittest.TestCase):
    def test_example(self):
        wishes, plan, other = beaten(CHAIN, STEPS, own(CHAIN, STEPS))
        self.assertEqual(wishes, ((1, 1), (2, 2)))
        self.assertEqual(
            plan,
            (
                (0, 0, ("rule", 0)),
                (0, 1, ("rule", 1)),
                (1, 0, ("rule", 2)),
                (1, 1, ("rule", 3)),
                (2, 2, ("rule", 4)),
            ),
        )
        self.assertEqual(other, ((0, 1, ("rule", 1)), (1, 1, ("rule", 3)), (2, 2, ("rule", 5))))

    def test_best_ones(self):
        self.assertIsNone(beaten(chain(4), STEPS, STEPS_OWN))
        self.assertIsNone(beaten(CHAIN, EMPTY_WEB, {}))
        self.assertIsNone(beaten(TWICE, PAIR, {(0, 0): ("rule", 0), (0, 1): ("rule", 1), (1, 0): ("rule", 2)}))

    def test_a_way_that_needs_nothing(self):
        book = Book((0,), 2, ((0, (), 0, 9), (0, (), 1, 1)), ((1, 0, 9),))
        web = Web(((0, ()),))
        choice = {(0, 0): ("move", 0), (0, 1): ("rule", 1)}
        told = (((0, 0),), ((0, 1, ("rule", 1)), (0, 0, ("move", 0))), ((0, 0, ("rule", 0)),))
        self.assertEqual(beaten(book, web, choice), told)

    def test_a_way_that_needs_one_thing_twice(self):
        choice = {(0, 0): ("rule", 0), (0, 1): ("rule", 1), (1, 0): ("rule", 3)}
        wishes, plan, other = beaten(TWICE, PAIR, choice)
        self.assertEqual(wishes, ((0, 0), (1, 0)))
        self.assertEqual(plan, plan_by(TWICE, PAIR, choice, wishes))
        self.assertEqual(other, ((0, 0, ("rule", 0)), (1, 0, ("rule", 2))))

    def test_both_are_plans_and_the_second_is_cheaper(self):
        many = 0
        for seed in range(100):
            book = random_book(seed)
            web = random_web(seed, book, 7)
            for choice in [own(book, web), *all_choices(book, web, 60)]:
                told = beaten(book, web, choice)
                self.assertEqual(told is None, is_best(book, web, choice))
                if told is not None:
                    many += 1
                    wishes, plan, other = told
                    thing, way = undercut(book, web, choice)
                    things = needs(book, web, thing, way)
                    self.assertEqual(wishes, tuple(sorted({thing, *things})))
                    self.assertEqual(plan, plan_by(book, web, choice, wishes))
                    self.assertEqual(other, plan_by(book, web, choice, things) + ((*thing, way),))
                    self.assertTrue(is_plan(book, web, wishes, other))
                    self.assertLess(price(book, web, other), price(book, web, plan))
        self.assertGreater(many, 50)


class GeneralTest(unittest.TestCase):
    def test_errors_in_their_order(self):
        for odd in NO_WEBS:
            for function in [extras, undercut, is_best, beaten]:
                with self.assertRaises(NoWeb):
                    function(CHAIN, odd, None)
        for function in [extras, undercut, beaten]:
            for odd in NO_CHOICES:
                with self.assertRaises(NoChoice):
                    function(CHAIN, STEPS, odd)
            with self.assertRaises(NoChoice):
                function(ROUND, ROUND_WEB, ROUND_WAYS)
            for odd in strange_objects():
                if odd is not CHAIN:
                    with self.assertRaises(NoWeb):
                        function(odd, STEPS, STEPS_OWN)

    def test_a_chain_of_200(self):
        choice = own(DOUBLING, DOUBLES)
        self.assertEqual(set(extras(DOUBLING, DOUBLES, choice).values()), {1})
        self.assertIsNone(undercut(DOUBLING, DOUBLES, choice))
        self.assertIs(is_best(DOUBLING, DOUBLES, choice), True)
        long = Web(((0, ()),) + tuple((1, (k,)) for k in range(198)) + ((2, (198,)),))
        told = own(CHAIN, long)
        self.assertEqual(extras(CHAIN, long, told)[((199, 2), ("rule", 5))], 2 + 199)
        self.assertEqual(len(beaten(CHAIN, long, told)[2]), 200)

    def test_a_web_of_many_things(self):
        rules = tuple((0, (), kind, 1 + kind) for kind in range(5))
        rules += tuple((1, (a, b), kind, 1 + a + 3 * b) for a in range(3) for b in range(2) for kind in range(5))
        moves = tuple((source, kind, 2) for source in range(5) for kind in range(5) if source != kind)
        book = Book((0, 2), 5, rules, moves)
        web = Web(((0, ()), (0, ())) + tuple((1, (k - 2, k - 1)) for k in range(2, 200)))
        self.assertEqual(len(extras(book, web, own(book, web))), 2 * 5 * 5 + 198 * 5 * 10)

    def test_nothing_is_changed(self):
        told = copy.deepcopy(STEPS_OWN)
        for function in [extras, undercut, is_best, beaten]:
            function(CHAIN, STEPS, told)
        self.assertEqual(list(told.items()), list(STEPS_OWN.items()))

    def test_ways_that_come_to_the_same_are_not_undercut(self):
        for k in [1, 2, 3]:
            choice = {(0, 0): ("rule", 0), (0, 1): ("move", 0), (1, 0): ("rule", k), (1, 1): ("move", 0)}
            self.assertIs(is_best(ALIKE, PAIR, choice), True)
        self.assertIs(is_best(MOVING, SHARED, own(MOVING, SHARED)), True)


if __name__ == "__main__":
    unittest.main()
