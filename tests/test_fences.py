import copy
import random
import unittest

from lookdown.alone import own
from lookdown.books import Book
from lookdown.choices import cost
from lookdown.errors import NoChoice, NoFences, NoWeb, NoWishes
from lookdown.fences import fences_of, floor, is_fences
from lookdown.judging import is_best
from lookdown.searching import cheapest
from lookdown.things import makeable, needs
from lookdown.webs import Web
from tests.samples import (
    CHAIN,
    DOUBLES,
    DOUBLING,
    EMPTY_BOOK,
    EMPTY_WEB,
    PAIR,
    STEPS,
    STEPS_OWN,
    TWICE,
    all_choices,
    all_lots,
    all_needed,
    random_book,
    random_web,
    strange_objects,
    strange_tuples,
    usable,
)
from tests.test_choices import NO_CHOICES, ROUND, ROUND_WAYS, ROUND_WEB
from tests.test_judging import chain, way_price
from tests.test_plans import NO_WEBS, NO_WISHES

LEAF = Web(((0, ()),))
NO_FENCES = [
    {},
    "",
    None,
    {((0, 0),): 1},
    (((0, 0),), 1),
    [[((0, 0),), 1]],
    [(((0, 0),),)],
    [(((0, 0),), 1, 1)],
    [((), 1)],
    [([(0, 0)], 1)],
    [((0, 0), 1)],
    [(((0, 0),), 0)],
    [(((0, 0),), -1)],
    [(((0, 0),), True)],
    [(((0, 0),), "1")],
    [(((0, 0),), None)],
    [(((0, 0), (0, 0)), 1)],
    [(((0, 1), (0, 0)), 1)],
    [(((0, 2),), 1)],
    [(((2, 0),), 1)],
    [(((3, 0),), 1)],
    [(((0, False),), 1)],
    [(((0, True),), 1)],
    [(((0, 0),), 1), None],
    [(((0, 0),), 2)],
    [(((0, 0),), 1), (((0, 0),), 1)],
    [odd for odd in strange_objects()],
    *[odd for odd in strange_objects() if odd != []],
    *[odd for odd in strange_tuples() if odd != ()],
    *[[odd] for odd in strange_objects() + strange_tuples()],
    *[[(odd, 1)] for odd in strange_objects() + strange_tuples()],
    *[[((odd,), 1)] for odd in strange_objects() + strange_tuples()],
    *[[(((0, 0),), odd)] for odd in strange_objects() + strange_tuples()],
]


def keep_to_prices(book, web, fences):
    """Whether each usable way enters fences of at most its own price."""
    for thing in makeable(book, web):
        for way in usable(book, web, thing):
            needed = needs(book, web, thing, way)
            entered = [told for lot, told in fences if thing in lot and not set(lot) & set(needed)]
            if sum(entered) > way_price(book, way):
                return False
    return True


class IsFencesTest(unittest.TestCase):
    def test_none(self):
        for book, web in [(CHAIN, STEPS), (CHAIN, EMPTY_WEB), (EMPTY_BOOK, LEAF)]:
            self.assertIs(is_fences(book, web, []), True)
            self.assertIs(is_fences(book, web, ()), True)

    def test_right_ones(self):
        self.assertIs(is_fences(CHAIN, STEPS, [(((0, 0),), 1)]), True)
        self.assertIs(is_fences(CHAIN, STEPS, ((((0, 0), (0, 1)), 1),)), True)
        self.assertIs(is_fences(CHAIN, STEPS, [(((0, 0), (1, 0)), 1), (((1, 0),), 1), (((2, 2),), 2)]), True)

    def test_what_are_none(self):
        for odd in NO_FENCES:
            self.assertIs(is_fences(CHAIN, STEPS, odd), False)

    def test_just_the_price_and_one_more(self):
        book = Book((0,), 1, ((0, (), 0, 1000),), ())
        fence = ((0, 0),)
        self.assertIs(is_fences(book, LEAF, [(fence, 1000)]), True)
        self.assertIs(is_fences(book, LEAF, [(fence, 1001)]), False)
        self.assertIs(is_fences(book, LEAF, [(fence, 10**40 - 1)]), False)
        self.assertIs(is_fences(book, LEAF, [(fence, 400), (fence, 599), (fence, 1)]), True)
        self.assertIs(is_fences(book, LEAF, [(fence, 400), (fence, 599), (fence, 2)]), False)
        self.assertIs(is_fences(book, LEAF, ((fence, 1),) * 1000), True)
        self.assertIs(is_fences(book, LEAF, ((fence, 1),) * 1001), False)

    def test_what_is_needed_inside_is_not_entered_again(self):
        inside = ((0, 0), (1, 0), (2, 2))
        self.assertIs(is_fences(CHAIN, STEPS, [(inside, 1)]), True)
        # Rule 5 enters this one from outside, and pays 3 at most.
        self.assertIs(is_fences(CHAIN, STEPS, [(inside, 1), (((2, 2),), 2)]), True)
        self.assertIs(is_fences(CHAIN, STEPS, [(inside, 1), (((2, 2),), 2), (((1, 0), (2, 2)), 1)]), False)
        self.assertIs(is_fences(chain(4), STEPS, [(inside, 1), (((2, 2),), 2), (((1, 0), (2, 2)), 1)]), True)

    def test_one_need_inside_is_enough(self):
        fences = [(((0, 0), (1, 0)), 9)]
        self.assertIs(is_fences(TWICE, PAIR, fences), True)
        self.assertIs(is_fences(TWICE, PAIR, [(((0, 1), (1, 0)), 4)]), True)
        self.assertIs(is_fences(TWICE, PAIR, [(((0, 1), (1, 0)), 4), (((1, 0),), 1)]), True)
        self.assertIs(is_fences(TWICE, PAIR, [(((0, 1), (1, 0)), 4), (((1, 0),), 2)]), False)

    def test_moves_enter_too(self):
        book = Book((0,), 2, ((0, (), 0, 5), (0, (), 1, 5)), ((0, 1, 2),))
        self.assertIs(is_fences(book, LEAF, [(((0, 1),), 2)]), True)
        self.assertIs(is_fences(book, LEAF, [(((0, 1),), 3)]), False)
        self.assertIs(is_fences(book, LEAF, [(((0, 0), (0, 1)), 5)]), True)

    def test_against_the_words(self):
        many = {True: 0, False: 0}
        for seed in range(200):
            dice = random.Random(seed)
            book = random_book(seed)
            web = random_web(seed, book, 4)
            lots = all_lots(makeable(book, web)[:6])[1:]
            if lots:
                fences = [(dice.choice(lots), dice.randint(1, 4)) for _ in range(dice.randint(0, 3))]
                right = keep_to_prices(book, web, fences)
                self.assertIs(is_fences(book, web, fences), right)
                self.assertIs(is_fences(book, web, tuple(fences)), right)
                many[right] += 1
        self.assertGreater(min(many.values()), 30)

    def test_no_web_comes_first(self):
        for odd in NO_WEBS:
            with self.assertRaises(NoWeb):
                is_fences(CHAIN, odd, [])

    def test_nothing_is_changed(self):
        told = [(((0, 0),), 1), [1, [2]]]
        kept = copy.deepcopy(told)
        is_fences(CHAIN, STEPS, told)
        self.assertEqual(told, kept)


class FloorTest(unittest.TestCase):
    FENCES = [(((0, 0), (1, 0)), 1), (((1, 0),), 1), (((2, 2),), 2)]

    def test_examples(self):
        for fences in [self.FENCES, tuple(self.FENCES)]:
            self.assertEqual(floor(CHAIN, STEPS, fences, ()), 0)
            self.assertEqual(floor(CHAIN, STEPS, fences, ((0, 0),)), 1)
            self.assertEqual(floor(CHAIN, STEPS, fences, ((1, 0),)), 2)
            self.assertEqual(floor(CHAIN, STEPS, fences, ((0, 0), (1, 0))), 2)
            self.assertEqual(floor(CHAIN, STEPS, fences, ((0, 1), (0, 0))[:1]), 0)
            self.assertEqual(floor(CHAIN, STEPS, fences, ((0, 0), (2, 2))), 3)
            self.assertEqual(floor(CHAIN, STEPS, fences, ((1, 0), (2, 2))), 4)

    def test_no_fences(self):
        self.assertEqual(floor(CHAIN, STEPS, [], ((0, 0), (2, 2))), 0)
        self.assertEqual(floor(CHAIN, STEPS, (), ()), 0)

    def test_the_second_fact(self):
        many = 0
        for seed in range(150):
            dice = random.Random(seed)
            book = random_book(seed)
            web = random_web(seed, book, 4)
            things = makeable(book, web)[:5]
            lots = all_lots(things)
            for _ in range(5 if things else 0):
                fences = [(dice.choice(lots[1:]), dice.randint(1, 3)) for _ in range(2)]
                if is_fences(book, web, fences):
                    for wishes in lots:
                        least = floor(book, web, fences, wishes)
                        many += least > 0
                        self.assertLessEqual(least, cheapest(book, web, wishes)[0])
        self.assertGreater(many, 100)

    def test_errors_in_their_order(self):
        for odd in NO_WEBS:
            with self.assertRaises(NoWeb):
                floor(CHAIN, odd, None, None)
        for odd in NO_FENCES:
            with self.assertRaises(NoFences):
                floor(CHAIN, STEPS, odd, None)
        for odd in NO_WISHES:
            with self.assertRaises(NoWishes):
                floor(CHAIN, STEPS, [], odd)


class FencesOfTest(unittest.TestCase):
    def test_example(self):
        self.assertEqual(
            fences_of(CHAIN, STEPS, STEPS_OWN),
            [
                (((0, 0), (1, 0), (2, 2)), 1),
                (((0, 1), (1, 1)), 1),
                (((1, 0), (2, 2)), 1),
                (((1, 1),), 1),
                (((2, 2),), 2),
            ],
        )
        self.assertEqual(fences_of(CHAIN, EMPTY_WEB, {}), [])

    def test_of_a_best_choice(self):
        fences = fences_of(chain(4), STEPS, STEPS_OWN)
        self.assertIs(is_fences(chain(4), STEPS, fences), True)
        for wishes in all_lots(STEPS_OWN):
            self.assertEqual(floor(chain(4), STEPS, fences, wishes), cost(chain(4), STEPS, STEPS_OWN, wishes))

    def test_of_one_that_is_not_best(self):
        self.assertIs(is_fences(CHAIN, STEPS, fences_of(CHAIN, STEPS, STEPS_OWN)), False)

    def test_against_the_words(self):
        for seed in range(60):
            book = random_book(seed)
            web = random_web(seed, book, 5)
            for choice in [own(book, web), *all_choices(book, web, 60)]:
                told = []
                for thing in sorted(choice):
                    lot = [each for each in sorted(choice) if thing in all_needed(book, web, choice, each)]
                    told.append((tuple(lot), way_price(book, choice[thing])))
                fences = fences_of(book, web, choice)
                self.assertEqual(fences, told)
                right = is_best(book, web, choice)
                self.assertIs(is_fences(book, web, fences), right)
                if right:
                    for wishes in all_lots(sorted(choice)[-4:]):
                        self.assertEqual(floor(book, web, fences, wishes), cost(book, web, choice, wishes))

    def test_a_chain_of_200(self):
        choice = own(DOUBLING, DOUBLES)
        fences = fences_of(DOUBLING, DOUBLES, choice)
        self.assertEqual([len(lot) for lot, _ in fences], list(range(200, 0, -1)))
        self.assertIs(is_fences(DOUBLING, DOUBLES, fences), True)
        self.assertEqual(floor(DOUBLING, DOUBLES, fences, ((199, 0),)), 200)

    def test_errors_in_their_order(self):
        for odd in NO_WEBS:
            with self.assertRaises(NoWeb):
                fences_of(CHAIN, odd, None)
        for odd in NO_CHOICES:
            with self.assertRaises(NoChoice):
                fences_of(CHAIN, STEPS, odd)
        with self.assertRaises(NoChoice):
            fences_of(ROUND, ROUND_WEB, ROUND_WAYS)

    def test_a_new_list(self):
        fences_of(CHAIN, STEPS, STEPS_OWN).clear()
        self.assertEqual(len(fences_of(CHAIN, STEPS, STEPS_OWN)), 5)


if __name__ == "__main__":
    unittest.main()
