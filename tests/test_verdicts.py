import itertools
import unittest

from lookdown.alone import own
from lookdown.books import Book
from lookdown.choices import cost
from lookdown.errors import TooMany
from lookdown.finding import best
from lookdown.judging import extras, undercut
from lookdown.searching import cheapest
from lookdown.standings import labels, standings
from lookdown.things import makeable
from lookdown.verdicts import failing, verdict, wides
from lookdown.webs import Web, beside
from tests.samples import (
    CHAIN,
    DOUBLING,
    EMPTY_BOOK,
    MOVING,
    TWICE,
    all_lots,
    all_needed,
    random_book,
)
from tests.test_judging import chain, way_price
from tests.test_standings import drifting

NO_LEAVES = Book((1, 2), 2, ((0, (0,), 0, 1), (1, (0, 1), 1, 1)), ((0, 1, 1),))


def web_of_tree(op, parts):
    """The web of a tree, of the webs of its parts."""
    web = Web(())
    tops = []
    for part in parts:
        web = beside(web, part)
        tops.append(len(web.rows) - 1)
    return Web(web.rows + ((op, tuple(tops)),))


def all_trees(book, storeys, most):
    """The webs of all trees of at most so many storeys, None for more than so many trees."""
    found = [web_of_tree(op, ()) for op, arity in enumerate(book.arities) if arity == 0]
    leaves = list(found)
    for _ in range(storeys - 1):
        lots = [(op, arity) for op, arity in enumerate(book.arities) if arity > 0]
        if len(leaves) + sum(len(found) ** arity for _, arity in lots) > most:
            return None
        grown = [web_of_tree(op, parts) for op, arity in lots for parts in itertools.product(found, repeat=arity)]
        found = leaves + grown
    return found


def is_tree(web):
    """Whether each value but the last is used just once, and the last one never."""
    used = sorted(part for _, parts in web.rows for part in parts)
    return used == list(range(len(web.rows) - 1))


def storeys(web):
    """How many storeys the tree of the last value has."""
    heights = []
    for _, parts in web.rows:
        heights.append(1 + max((heights[part] for part in parts), default=0))
    return heights[-1]


def told_widths(book, web):
    """For all pairs of makeable kinds of the last value the price of what one needs beyond the other."""
    choice = own(book, web)
    top = len(web.rows) - 1
    lots = {kind: all_needed(book, web, choice, (value, kind)) for value, kind in choice if value == top}
    told = {}
    for kind, other in itertools.product(lots, repeat=2):
        told[(kind, other)] = sum(way_price(book, choice[thing]) for thing in lots[kind] - lots[other])
    return told


def trees_by_tops(book):
    """The dict from all (op, numbers of parts' standings) to a web of such a tree."""
    trees = {}
    found = {}
    many = -1
    while many < len(found):
        many = len(found)
        for op, arity in enumerate(book.arities):
            for parts in itertools.product(list(trees), repeat=arity):
                if (op, parts) not in found:
                    web = web_of_tree(op, [trees[part] for part in parts])
                    trees.setdefault(labels(book, web)[-1], web)
                    found[(op, parts)] = web
    assert sorted(trees) == list(range(len(standings(book))))
    return found


def grown_widths(book, rounds, cap):
    """For all triples the greatest widths of all trees of so many storeys, by what tops and parts add.

    Told as far as a cap; what a top adds is read off one tree for each of its parts' standings.
    """
    rows = {top: (labels(book, web)[-1], top_adds(book, web)) for top, web in trees_by_tops(book).items()}
    widths = {}
    for _ in range(rounds):
        further = {}
        for (_, parts), (number, adds) in rows.items():
            for (kind, other), (paid, pairs) in adds.items():
                triples = [(part, *pair) for part, pair in zip(parts, pairs)]
                if all(triple in widths for triple in triples):
                    worth = min(cap, paid + sum(widths[triple] for triple in triples))
                    triple = (number, kind, other)
                    further[triple] = max(further.get(triple, 0), worth)
        if further == widths:
            break
        widths = further
    return widths


def top_adds(book, web):
    """For pairs of kinds of the last value what it adds itself, and for each part the pair of its kinds."""
    choice = own(book, web)
    top = len(web.rows) - 1
    trails = {}
    for value, kind in choice:
        if value == top:
            passed = [kind]
            while choice[(top, passed[-1])][0] == "move":
                passed.append(book.moves[choice[(top, passed[-1])][1]][0])
            trails[kind] = (passed, book.rules[choice[(top, passed[-1])][1]][1])
    told = {}
    for kind, other in itertools.product(trails, repeat=2):
        passed, sources = trails[kind]
        others, other_sources = trails[other]
        paid = sum(way_price(book, choice[(top, each)]) for each in passed if each not in others)
        told[(kind, other)] = (paid, list(zip(sources, other_sources)))
    return told


def told_wides(book, most):
    """The dict of greatest widths, None where they grow without end; None at all if this is not seen in time.

    Behind as many storeys as there are triples, what has an end has come to it.
    """
    many = sum(len([way for way in ways if way is not None]) ** 2 for _, ways in standings(book))
    first = grown_widths(book, many, 10**9)
    cap = max(first.values(), default=0) + 1
    if many * (cap + 2) > most:
        return None
    last = grown_widths(book, many * (cap + 2), cap)
    return {triple: worth if last[triple] == worth else None for triple, worth in first.items()}


def is_small(book, most):
    """Whether a book has at most so many standings."""
    try:
        return len(standings(book)) <= most
    except TooMany:
        return False


def small_books(seeds, most):
    """Random books of at most so many standings."""
    return [book for book in map(random_book, range(seeds)) if is_small(book, most)]


class WidesTest(unittest.TestCase):
    def test_example(self):
        told = wides(CHAIN)
        self.assertEqual((told[(0, 0, 1)], told[(1, 0, 1)]), (1, None))
        self.assertEqual(
            told,
            {
                (0, 0, 0): 0,
                (0, 0, 1): 1,
                (0, 1, 0): 1,
                (0, 1, 1): 0,
                (1, 0, 0): 0,
                (1, 0, 1): None,
                (1, 1, 0): None,
                (1, 1, 1): 0,
                (2, 2, 2): 0,
            },
        )

    def test_books_without_standings_or_makeable_things(self):
        self.assertEqual(wides(NO_LEAVES), {})
        self.assertEqual(wides(EMPTY_BOOK), {})
        self.assertEqual(wides(Book((0, 1, 2), 5, (), ((0, 1, 1),))), {})

    def test_a_standing_that_hangs_on_itself(self):
        self.assertEqual(wides(DOUBLING), {(0, 0, 0): 0, (1, 0, 0): 0})
        # Kind 1 is a move away from kind 0 everywhere, so nothing is added below the top.
        book = Book((0, 1), 2, ((0, (), 0, 5), (1, (0,), 0, 7)), ((0, 1, 3),))
        for number in range(2):
            for kind, other, worth in [(0, 0, 0), (1, 1, 0), (0, 1, 0), (1, 0, 3)]:
                self.assertEqual(wides(book)[(number, kind, other)], worth)

    def test_moves_that_are_shared(self):
        book = Book((0,), 4, ((0, (), 0, 5),), ((0, 1, 1), (1, 2, 2), (1, 3, 4)))
        told = wides(book)
        self.assertEqual((told[(0, 2, 3)], told[(0, 3, 2)]), (2, 4))
        self.assertEqual((told[(0, 3, 0)], told[(0, 0, 3)], told[(0, 3, 1)]), (5, 0, 4))

    def test_an_end_that_comes_late(self):
        # Each value of op 1 lies one dearer in kind 1, till a move from kind 0 is cheaper.
        for cap in [5, 28]:
            told = wides(drifting(cap))
            for gap in range(cap):
                self.assertEqual(told[(gap, 1, 0)], 1 + 2 * gap)
                self.assertEqual(told[(gap, 0, 1)], 1 + gap)
            # The rule costs less of its own, so it gives way one storey later.
            self.assertEqual((told[(cap, 1, 0)], told[(cap, 0, 1)]), (1 + 2 * cap, 1 + cap))
            self.assertEqual((told[(cap + 1, 1, 0)], told[(cap + 1, 0, 1)]), (cap, 0))

    def test_great_ones(self):
        # Seven ops of two parts, each one from kinds in which the one ahead of it alone lies both.
        pairs = [(0, 1), (2, 3), (4, 0), (1, 2), (3, 4), (0, 2), (1, 3), (2, 4)]
        rules = [(0, (), 0, 1000), (0, (), 1, 1000)]
        for op in range(1, 8):
            for source, kind in zip(pairs[op - 1], pairs[op]):
                rules.append((op, (source, source), kind, 1000))
        book = Book((0,) + (2,) * 7, 5, tuple(rules), ())
        found = standings(book)
        told = wides(book)
        for op in range(1, 8):
            number = [at for at, (_, ways) in enumerate(found) if ("rule", 2 * op) in ways and ("rule", 2 * op + 1) in ways]
            self.assertEqual([told[(each, *pairs[op])] for each in number], [1000 * (2 ** (op + 1) - 1)])
        self.assertNotIn(None, told.values())

    def test_widths_beside_one_another(self):
        # The first part goes round for nothing; the second one, of another standing, ends.
        rules = ((0, (), 0, 1), (1, (), 0, 4), (1, (), 1, 4), (2, (0, 0), 0, 2), (2, (0, 1), 1, 2))
        book = Book((0, 0, 2), 2, rules, ())
        self.assertEqual(wides(book), told_wides(book, 10**6))
        self.assertIn(None, wides(book).values())

    def test_rounds_of_several_standings(self):
        # Kinds 0 and 1 lead to 2 and 3 and back, so each standing hangs on itself by the other one alone.
        rules = ((0, (), 0, 1), (0, (), 1, 1), (1, (0,), 2, 1), (1, (1,), 3, 1), (2, (2,), 0, 1), (2, (3,), 1, 1))
        told = wides(Book((0, 1, 1, 1), 5, rules + ((3, (0,), 4, 1),), ()))
        self.assertEqual((told[(0, 0, 1)], told[(0, 1, 0)]), (1, 1))
        self.assertEqual([triple for triple, worth in told.items() if worth is None], [(1, 2, 3), (1, 3, 2), (4, 0, 1), (4, 1, 0)])
        self.assertEqual(told[(3, 4, 4)], 0)

    def test_a_round_of_standings_that_hang_on_later_ones(self):
        # Each of three ops makes a pair of kinds of the pair that the next one makes; so do leaves.
        pairs = [(0, 1), (2, 3), (4, 0)]
        rules = [(op, (), kind, 1) for op in range(3) for kind in pairs[op]]
        for op in range(3):
            for source, kind in zip(pairs[(op + 1) % 3], pairs[op]):
                rules.append((3 + op, (source,), kind, 1))
        book = Book((0, 0, 0, 1, 1, 1), 5, tuple(rules), ())
        told = wides(book)
        endless = []
        for number, (_, ways) in enumerate(standings(book)):
            for op in range(3):
                if ("rule", 6 + 2 * op) in ways and ("rule", 7 + 2 * op) in ways:
                    endless.extend([(number, *pairs[op]), (number, *pairs[op][::-1])])
        self.assertEqual(len(endless), 6)
        self.assertEqual({triple for triple, worth in told.items() if worth is None}, set(endless))

    def test_what_hangs_on_what_has_no_end(self):
        book = Book((0, 1, 1), 4, CHAIN.rules[:4] + ((2, (0,), 2, 5), (2, (1,), 3, 5)), ())
        told = wides(book)
        endless = [triple for triple in told if told[triple] is None]
        self.assertEqual(endless, [(1, 0, 1), (1, 1, 0), (2, 2, 3), (2, 3, 2)])

    def test_both_parts_grow(self):
        rules = ((0, (), 0, 1), (0, (), 1, 1), (1, (0, 0), 0, 1), (1, (1, 1), 1, 1))
        told = wides(Book((0, 2), 2, rules, ()))
        self.assertEqual(told[(0, 0, 1)], 1)
        self.assertIsNone(told[(1, 0, 1)])

    def test_against_all_trees_of_four_storeys(self):
        many = 0
        for book in small_books(250, 12):
            found = all_trees(book, 4, 300)
            if found is None:
                continue
            told = wides(book)
            reached = {}
            for web in found:
                number = labels(book, web)[-1]
                for (kind, other), worth in told_widths(book, web).items():
                    triple = (number, kind, other)
                    reached[triple] = max(reached.get(triple, 0), worth)
            self.assertEqual(reached, grown_widths(book, 4, 10**9))
            for triple, worth in reached.items():
                self.assertIn(triple, told)
                self.assertTrue(told[triple] is None or worth <= told[triple])
            many += 1
        self.assertGreater(many, 40)

    def test_against_trees_that_grow(self):
        many = {True: 0, False: 0}
        for book in small_books(400, 8):
            told = told_wides(book, 20000)
            if told is not None:
                self.assertEqual(wides(book), told)
                many[None in told.values()] += 1
        self.assertGreater(min(many.values()), 10)

    def test_too_many(self):
        self.assertEqual(len(wides(drifting(28))), 120)
        self.assertEqual(verdict(drifting(28)), (1, (13,), 1, ("move", 0)))
        for function in [wides, verdict, failing]:
            for cap in [29, 1000]:
                with self.assertRaises(TooMany) as caught:
                    function(drifting(cap))
                self.assertEqual(caught.exception.most, 30)

    def test_a_new_dict(self):
        wides(CHAIN).clear()
        self.assertEqual(len(wides(CHAIN)), 9)


class VerdictTest(unittest.TestCase):
    def test_books_that_are_told_right(self):
        for book in [NO_LEAVES, EMPTY_BOOK, DOUBLING, Book((0, 1), 2, ((0, (), 0, 5), (1, (0,), 0, 7)), ((0, 1, 3),))]:
            self.assertIsNone(verdict(book))
            self.assertIsNone(failing(book))

    def test_chain(self):
        self.assertEqual(verdict(CHAIN), (2, (1,), 2, ("rule", 5)))
        # What leaves of kind 0 need beyond those of kind 1 is not enough.
        self.assertEqual(verdict(chain(2)), (2, (0,), 2, ("rule", 5)))
        self.assertEqual(verdict(chain(1000)), (2, (1,), 2, ("rule", 5)))

    def test_a_leaf(self):
        book = Book((0,), 2, ((0, (), 0, 2), (0, (), 1, 3)), ((0, 1, 2),))
        self.assertEqual(verdict(book), (0, (), 1, ("move", 0)))
        web, thing, way = failing(book)
        self.assertEqual((web.rows, thing, way), (((0, ()),), (0, 1), ("move", 0)))
        self.assertIsNone(verdict(Book((0,), 2, ((0, (), 0, 2), (0, (), 1, 3)), ((0, 1, 3),))))

    def test_usable_ways_alone(self):
        # Nothing gives kind 3 or 4, so the cheap ways from there do not undercut.
        rules = ((0, (), 0, 9), (1, (0,), 0, 9), (1, (3,), 0, 1))
        self.assertIsNone(verdict(Book((0, 1), 5, rules, ((4, 0, 1), (3, 4, 1), (4, 3, 1)))))

    def test_the_least_one(self):
        # Leaves of either op have the kinds 0 and 1, each without the other.
        rules = ((0, (), 0, 4), (0, (), 1, 4), (1, (), 0, 4), (1, (), 1, 4))
        rules = rules + ((2, (0,), 2, 5), (2, (1,), 2, 6), (2, (0,), 3, 5), (2, (1,), 3, 6))
        book = Book((0, 0, 1), 4, rules, ((2, 3, 9), (3, 2, 9)))
        self.assertEqual(verdict(book), (2, (0,), 2, ("rule", 5)))
        self.assertEqual(min(undercut_places(book, all_trees(book, 3, 1000))), verdict(book))
        book = Book((0, 0, 1), 4, rules, ((2, 3, 3), (3, 2, 4)))
        self.assertEqual(verdict(book), (2, (0,), 2, ("move", 1)))

    def test_against_all_trees(self):
        many = {True: 0, False: 0}
        for book in small_books(250, 12):
            found = all_trees(book, 4, 300)
            if found is None:
                continue
            places = undercut_places(book, found)
            told = verdict(book)
            if places:
                self.assertIsNotNone(told)
                self.assertLessEqual(told, min(places))
            if told is None:
                self.assertEqual(places, set())
                for web in found:
                    self.assertIsNone(undercut(book, web, own(book, web)))
            many[told is None] += 1
        self.assertGreater(min(many.values()), 10)

    def test_the_least_place_by_widths(self):
        many = 0
        for book in small_books(200, 8):
            widths = told_wides(book, 20000)
            if widths is not None:
                self.assertEqual(verdict(book), min(told_places(book, widths), default=None))
                many += 1
        self.assertGreater(many, 100)


def undercut_places(book, webs):
    """The set of all (op, parts, kind, way) at which a way of the last value of a tree is undercut."""
    places = set()
    for web in webs:
        numbers = labels(book, web)
        op, parts = web.rows[-1]
        for ((value, kind), way), extra in extras(book, web, own(book, web)).items():
            if value == len(web.rows) - 1 and extra > way_price(book, way):
                places.add((op, tuple(numbers[part] for part in parts), kind, way))
    return places


def told_places(book, widths):
    """As undercut_places, of all trees, by the widths of parts."""
    places = []
    for (op, parts), web in trees_by_tops(book).items():
        top = len(web.rows) - 1
        adds = top_adds(book, web)
        choice = own(book, web)
        for (value, kind), way in extras(book, web, choice):
            if value != top:
                continue
            if way[0] == "move":
                paid, pairs = adds[(kind, book.moves[way[1]][0])]
            else:
                passed = [kind]
                while choice[(top, passed[-1])][0] == "move":
                    passed.append(book.moves[choice[(top, passed[-1])][1]][0])
                paid = sum(way_price(book, choice[(top, each)]) for each in passed)
                pairs = list(zip(book.rules[choice[(top, passed[-1])][1]][1], book.rules[way[1]][1]))
            worths = [widths[(part, *pair)] for part, pair in zip(parts, pairs)]
            if None in worths or paid + sum(worths) > way_price(book, way):
                places.append((op, parts, kind, way))
    return places


class FailingTest(unittest.TestCase):
    def check(self, book, many):
        """What is told is undercut, on a tree of so many storeys."""
        web, thing, way = failing(book)
        self.assertIsInstance(web, Web)
        self.assertTrue(is_tree(web))
        self.assertEqual(storeys(web), many)
        self.assertEqual(thing[0], len(web.rows) - 1)
        choice = own(book, web)
        self.assertGreater(extras(book, web, choice)[(thing, way)], way_price(book, way))
        return web

    def test_towers(self):
        self.check(CHAIN, 3)
        for last in range(2, 13):
            web = self.check(chain(last), last)
            self.assertEqual(len(web.rows), last)
        for last in [13, 14, 1000]:
            self.assertEqual(verdict(chain(last)), (2, (1,), 2, ("rule", 5)))
            with self.assertRaises(TooMany) as caught:
                failing(chain(last))
            self.assertEqual(caught.exception.most, 12)

    def test_wide_towers(self):
        # A full tree of so many storeys has 2 ** storeys - 1 values, and all of them are needed.
        rules = ((0, (), 0, 1), (0, (), 1, 1), (1, (0, 0), 0, 1), (1, (1, 1), 1, 1), (2, (0,), 2, 2))
        for last, many in [(2, 1), (3, 2), (4, 2), (5, 3), (100, 7), (1000, 10)]:
            book = Book((0, 2, 1), 3, rules + ((2, (1,), 2, last),), ())
            self.assertEqual(len(self.check(book, many + 1).rows), 2 ** many)

    def test_parts_that_differ(self):
        # The dear width lies in the second part alone, two storeys below the top.
        rules = ((0, (), 0, 1), (1, (), 0, 9), (1, (), 1, 9), (2, (0,), 0, 1), (2, (1,), 1, 1))
        book = Book((0, 0, 1, 2), 3, rules + ((3, (0, 0), 2, 1), (3, (0, 1), 2, 11)), ())
        self.assertIsNone(verdict(Book(book.arities, 3, book.rules[:-1] + ((3, (0, 0), 0, 11),), ())))
        web = self.check(book, 4)
        self.assertEqual(verdict(book)[0], 3)
        self.assertEqual(labels(book, web)[-1], labels(book, web_of_tree(3, [Web(((0, ()),)), Web(((1, ()),))]))[-1])

    def test_the_dearest_of_parts_that_stand_alike(self):
        # Behind op 2 nothing tells of which leaf a value is made; one of them is dear.
        for cheap, dear in [(0, 1), (1, 0)]:
            leaves = tuple((op, (), kind, 10 if op == dear else 1) for op in sorted((cheap, dear)) for kind in range(2))
            more = ((2, (0,), 0, 1), (2, (1,), 1, 1), (3, (0,), 2, 1), (3, (1,), 2, 11))
            book = Book((0, 0, 1, 1), 3, leaves + more, ())
            web = self.check(book, 3)
            self.assertEqual(web.rows, ((dear, ()), (2, (0,)), (3, (1,))))

    def test_no_tree_of_fewer_storeys(self):
        heights = {}
        for book in small_books(300, 12):
            told = None
            try:
                told = failing(book)
            except TooMany:
                self.assertIsNotNone(verdict(book))
            if told is None:
                continue
            self.assertIsNotNone(verdict(book))
            many = storeys(told[0])
            fewer = all_trees(book, many - 1, 500) if many > 1 else []
            if fewer is not None:
                self.check(book, many)
                self.assertEqual(undercut_places(book, fewer), set())
                heights[many] = heights.get(many, 0) + 1
        self.assertGreater(len(heights), 2)

    def test_the_fifth_fact(self):
        many = {True: 0, False: 0}
        for book in small_books(150, 12):
            told = None
            try:
                told = failing(book)
            except TooMany:
                continue
            if told is not None:
                self.assertIsNone(best(book, told[0]))
            else:
                for web in all_trees(book, 3, 100) or []:
                    choice = own(book, web)
                    for wishes in all_lots(makeable(book, web)) if len(choice) < 5 else []:
                        self.assertEqual(cost(book, web, choice, wishes), cheapest(book, web, wishes)[0])
            many[told is None] += 1
        self.assertGreater(min(many.values()), 10)

    def test_books_with_moves(self):
        for book in [MOVING, TWICE]:
            if is_small(book, 30) and verdict(book) is not None:
                self.check(book, storeys(failing(book)[0]))


if __name__ == "__main__":
    unittest.main()
