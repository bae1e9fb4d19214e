import unittest

from lookdown.alone import alone, own
from lookdown.books import Book
from lookdown.choices import is_choice
from lookdown.errors import NoWeb
from lookdown.things import makeable
from lookdown.webs import Web, part_web, unfolded
from tests.samples import (
    CHAIN,
    DOUBLES,
    DOUBLING,
    EMPTY_BOOK,
    EMPTY_WEB,
    MOVING,
    PAIR,
    SHARED,
    STEPS,
    STEPS_OWN,
    TWICE,
    random_book,
    random_web,
    usable,
)
from tests.test_plans import NO_WEBS

LEAF = Web(((0, ()),))


def paid(book, web, prices, thing, way):
    """What a way comes to if what it needs comes to these prices, twice for what it needs twice."""
    word, k = way
    value = thing[0]
    if word == "move":
        source, _, price = book.moves[k]
        return price + prices[(value, source)]
    _, sources, _, price = book.rules[k]
    return price + sum(prices[need] for need in zip(web.rows[value][1], sources))


class AloneTest(unittest.TestCase):
    def test_examples(self):
        prices = {(0, 0): 1, (0, 1): 1, (1, 0): 2, (1, 1): 2, (2, 2): 4}
        self.assertEqual(alone(CHAIN, STEPS), prices)
        self.assertEqual(own(CHAIN, STEPS), STEPS_OWN)
        self.assertEqual((alone(CHAIN, STEPS)[(2, 2)], own(CHAIN, STEPS)[(2, 2)]), (4, ("rule", 4)))

    def test_a_thing_that_is_needed_twice_counts_twice(self):
        self.assertEqual(alone(TWICE, PAIR), {(0, 0): 10, (0, 1): 4, (1, 0): 10 + 4 + 8})
        self.assertEqual(own(TWICE, PAIR)[(1, 0)], ("rule", 3))
        self.assertEqual(alone(DOUBLING, PAIR), {(0, 0): 1, (1, 0): 3})

    def test_each_use_pays(self):
        web = Web(((0, ()), (1, (0, 0)), (1, (0, 1)), (1, (2, 1))))
        self.assertEqual(alone(DOUBLING, web), {(0, 0): 1, (1, 0): 3, (2, 0): 5, (3, 0): 9})

    def test_a_chain_of_200(self):
        prices = alone(DOUBLING, DOUBLES)
        self.assertEqual(prices, {(k, 0): 2 ** (k + 1) - 1 for k in range(200)})
        self.assertEqual(len(str(prices[(199, 0)])), 61)
        self.assertEqual(own(DOUBLING, DOUBLES), {(k, 0): ("rule", min(k, 1)) for k in range(200)})

    def test_of_like_sums_the_least_own_price(self):
        # Kind 2 comes to 3 by each of these: a rule for 3, moves for 1 and 2.
        rules = ((0, (), 2, 3), (0, (), 0, 2), (0, (), 1, 1))
        for moves, way in [
            (((1, 2, 2), (0, 2, 1)), ("move", 1)),
            (((0, 2, 1), (1, 2, 2)), ("move", 0)),
            (((1, 2, 2),), ("move", 0)),
            ((), ("rule", 0)),
        ]:
            book = Book((0,), 3, rules, moves)
            self.assertEqual(alone(book, LEAF)[(0, 2)], 3)
            self.assertEqual(own(book, LEAF)[(0, 2)], way)

    def test_of_like_own_prices_the_least_way(self):
        rules = ((0, (), 0, 1), (0, (), 1, 1), (1, (1,), 0, 2), (1, (0,), 0, 2), (1, (0,), 1, 1))
        web = Web(((0, ()), (1, (0,))))
        self.assertEqual(own(Book((0, 1), 2, rules, ()), web)[(1, 0)], ("rule", 2))
        moved = own(Book((0, 1), 2, rules, ((1, 0, 1),)), web)
        self.assertEqual(moved[(1, 0)], ("move", 0))
        self.assertEqual(moved[(0, 0)], ("rule", 0))
        # Here both the rule and the move have the price 2 and come to 4.
        rules = ((0, (), 0, 2), (1, (0,), 0, 2), (1, (0,), 1, 2), (0, (), 1, 2))
        book = Book((0, 1), 3, rules + ((1, (0,), 2, 4), (1, (1,), 2, 4)), ((0, 2, 2), (1, 2, 2)))
        self.assertEqual(alone(book, web)[(1, 2)], 6)
        self.assertEqual(own(book, web)[(1, 2)], ("move", 0))
        tied = Book((0, 1), 2, ((0, (), 0, 2), (0, (), 1, 1), (1, (0,), 0, 2), (1, (1,), 1, 1)), ((1, 0, 2),))
        self.assertEqual(alone(tied, web)[(1, 0)], 4)
        self.assertEqual(own(tied, web)[(1, 0)], ("move", 0))

    def test_moves_that_lead_round(self):
        prices = alone(MOVING, SHARED)
        self.assertEqual((prices[(0, 0)], prices[(0, 1)]), (3, 2))
        ways = own(MOVING, SHARED)
        self.assertEqual((ways[(0, 0)], ways[(0, 1)]), (("move", 1), ("rule", 1)))

    def test_rows_of_moves(self):
        book = Book((0,), 5, ((0, (), 4, 1),), ((1, 0, 1), (2, 1, 1), (3, 2, 1), (4, 3, 1), (4, 0, 4), (4, 1, 4)))
        self.assertEqual(alone(book, LEAF), {(0, 4): 1, (0, 3): 2, (0, 2): 3, (0, 1): 4, (0, 0): 5})
        ways = {(0, 4): ("rule", 0), (0, 3): ("move", 3), (0, 2): ("move", 2), (0, 1): ("move", 1), (0, 0): ("move", 0)}
        self.assertEqual(own(book, LEAF), ways)

    def test_what_is_not_makeable_does_not_stand_there(self):
        for book, web in [(EMPTY_BOOK, LEAF), (CHAIN, EMPTY_WEB)]:
            self.assertEqual(alone(book, web), {})
            self.assertEqual(own(book, web), {})
        for seed in range(40):
            book = random_book(seed)
            web = random_web(seed, book, 6)
            self.assertEqual(sorted(alone(book, web)), list(makeable(book, web)))
            self.assertEqual(sorted(own(book, web)), list(makeable(book, web)))

    def test_against_the_words(self):
        for seed in range(150):
            book = random_book(seed)
            web = random_web(seed, book, 7)
            prices, choice = alone(book, web), own(book, web)
            self.assertTrue(is_choice(book, web, choice))
            for thing in choice:
                told = [(paid(book, web, prices, thing, way), way) for way in usable(book, web, thing)]
                self.assertEqual(prices[thing], min(total for total, _ in told))
                least = [way for total, way in told if total == prices[thing]]
                table = {"rule": 3, "move": 2}
                costs = {way: getattr(book, way[0] + "s")[way[1]][table[way[0]]] for way in least}
                self.assertEqual(choice[thing], min(least, key=lambda way: (costs[way], way)))

    def test_it_hangs_on_the_part_web_alone(self):
        for seed in range(30):
            book = random_book(seed)
            web = random_web(seed, book, 7)
            prices, choice = alone(book, web), own(book, web)
            for value, kind in choice:
                for part in [part_web(web, value), unfolded(web, value)]:
                    last = len(part.rows) - 1
                    self.assertEqual(alone(book, part)[(last, kind)], prices[(value, kind)])
                    self.assertEqual(own(book, part)[(last, kind)], choice[(value, kind)])

    def test_the_dicts_are_new(self):
        for function in [alone, own]:
            told = function(CHAIN, STEPS)
            told.clear()
            self.assertEqual(len(function(CHAIN, STEPS)), 5)

    def test_no_web(self):
        for odd in NO_WEBS:
            for function in [alone, own]:
                with self.assertRaises(NoWeb):
                    function(CHAIN, odd)
                if odd is not CHAIN:
                    with self.assertRaises(NoWeb):
                        function(odd, STEPS)


if __name__ == "__main__":
    unittest.main()
