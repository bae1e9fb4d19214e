import random
import unittest

from lookdown.books import Book
from lookdown.errors import NoLimits, NoScript, NoWeb, NoWishes
from lookdown.plans import is_plan, needless
from lookdown.scripts import held, is_script, script_price
from lookdown.things import makeable, needs, ways
from lookdown.webs import Web
from tests.samples import (
    CHAIN,
    EMPTY_BOOK,
    EMPTY_WEB,
    MOVING,
    SHARED,
    STEPS,
    nested,
    random_book,
    random_web,
    strange_objects,
    strange_tuples,
)
from tests.test_plans import LEFT, NO_WEBS, NO_WISHES, some_plan

FREE = (None, None, None)
A0, A1, B0, B1, TOP = LEFT[0], (0, 1, ("rule", 1)), LEFT[1], (1, 1, ("rule", 3)), LEFT[2]
RIGHT_TOP = (2, 2, ("rule", 5))
SCRIPT = ((A0, ()), (B0, ()), (TOP, ((0, 0),)))
ODD = strange_objects() + strange_tuples()
NO_LIMITS = [
    (),
    (None, None),
    (None,) * 4,
    [None, None, None],
    (21, None, None),
    (None, -1, None),
    (None, None, True),
    (False, None, None),
    ("1", None, None),
    (None, None, (1,)),
    None,
    20,
    *[odd for odd in ODD if not isinstance(odd, tuple) or len(odd) != 3],
    *[(None, None, odd) for odd in strange_objects() if odd is not None],
    *[(odd, 0, 0) for odd in strange_objects() if odd is not None],
]
NO_STEPS = [
    None,
    (),
    (A0,),
    (A0, (), ()),
    [A0, ()],
    (A0, []),
    (A0, None),
    (A0, (0, 0)),
    (A0, ((0, 0),)),
    (A0, ((0, 1),)),
    ((), A0),
    (None, ()),
    ((0, 0), ()),
    ((0, 0, ("rule", 1)), ()),
    ((0, 2, ("rule", 0)), ()),
    ((0, 3, ("rule", 0)), ()),
    ((3, 0, ("rule", 0)), ()),
    ((False, 0, ("rule", 0)), ()),
    ((0, False, ("rule", 0)), ()),
    ((0, 0, ("rule", False)), ()),
    ((0, 0, ["rule", 0]), ()),
    ((0, 0, ("move", 0)), ()),
    ([0, 0, ("rule", 0)], ()),
    ((0, 0, ("rule", 0), 0), ()),
    *ODD,
    *[(A0, odd) for odd in ODD if odd != ()],
    *[(odd, ()) for odd in ODD],
    *[((0, 0, odd), ()) for odd in ODD],
    *[((0, 0, ("rule", odd)), ()) for odd in strange_objects()],
]


def told_lots(book, web, limits, script):
    """The sets held behind each step, None for no script, of steps that are triples of right things."""
    now, found = set(), []
    for (value, kind, way), dropped in script:
        thing = (value, kind)
        needed = set(needs(book, web, thing, way))
        if list(dropped) != sorted(set(dropped)) or not now.issuperset(dropped) or needed & set(dropped):
            return None
        now = now - set(dropped)
        if thing in now or not now.issuperset(needed):
            return None
        now = now | {thing}
        for kind, limit in enumerate(limits):
            if limit is not None and len([each for each in now if each[1] == kind]) > limit:
                return None
        found.append(now)
    return found


class IsScriptTest(unittest.TestCase):
    def right(self, wishes, limits, script, told=True):
        self.assertIs(is_script(CHAIN, STEPS, wishes, limits, script), told)

    def test_scripts(self):
        for wishes, script in [
            ((), ()),
            ((), SCRIPT[:1]),
            ((), SCRIPT),
            (((2, 2),), SCRIPT),
            (((1, 0), (2, 2)), SCRIPT),
            (((0, 0), (1, 0), (2, 2)), SCRIPT[:2] + ((TOP, ()),)),
            (((0, 1), (2, 2)), ((A1, ()), *SCRIPT)),
            (((2, 2),), ((A1, ()), (A0, ()), (B0, ((0, 1),)), (TOP, ((0, 0),)))),
        ]:
            self.right(wishes, FREE, script)

    def test_what_is_wished_is_held_at_the_end(self):
        self.right(((0, 0),), FREE, SCRIPT, False)
        self.right(((2, 2),), FREE, SCRIPT[:2], False)
        self.right(((0, 0),), FREE, (), False)
        self.right(((0, 0),), FREE, SCRIPT[:2])
        self.right(((0, 0),), FREE, SCRIPT + ((A0, ()),))

    def test_a_thing_made_again(self):
        again = SCRIPT[:2] + ((A1, ((0, 0),)), (A0, ((0, 1),)))
        self.right(((0, 0), (1, 0)), FREE, again)
        self.assertEqual(script_price(CHAIN, STEPS, FREE, again), 4)
        # Let go of and made anew by one step.
        self.right(((0, 0),), FREE, ((A0, ()), (A0, ((0, 0),))))
        self.right(((0, 0),), (1, 0, 0), ((A0, ()), (A0, ((0, 0),)), (A0, ((0, 0),))))
        self.right(((1, 0),), FREE, ((A0, ()), (B0, ()), (B0, ((1, 0),))))

    def test_a_thing_that_is_held_is_not_made(self):
        self.right((), FREE, ((A0, ()), (A0, ())), False)
        self.right((), FREE, SCRIPT[:2] + ((A0, ()),), False)

    def test_what_is_let_go_of(self):
        # Not held, needed by the step, needed again and not there.
        self.right((), FREE, ((A0, ()), (B0, ((0, 0),))), False)
        self.right((), FREE, ((A0, ()), (A1, ((0, 0),)), (B0, ())), False)
        self.right((), FREE, ((A0, ()), (A1, ((1, 0),))), False)
        self.right((), FREE, ((A0, ()), (A1, ((0, 0),)), (B1, ((0, 0),))), False)
        self.right((), FREE, ((A0, ()), (B0, ()), (A1, ((0, 0), (1, 0)))))
        self.right((), FREE, ((A0, ()), (B0, ()), (A1, ((1, 0), (0, 0)))), False)
        self.right((), FREE, ((A0, ()), (B0, ()), (A1, ((0, 0), (0, 0)))), False)
        self.right((), FREE, ((A0, ()), (B0, ()), (A1, [(0, 0)])), False)

    def test_what_is_needed_is_held(self):
        for script in [((B0, ()),), ((A1, ()), (B0, ())), ((A0, ()), (B1, ())), ((A0, ()), (TOP, ())), SCRIPT[::-1]]:
            self.right((), FREE, script, False)

    def test_limits(self):
        for limits, told in [
            ((2, 0, 1), True),
            ((1, 0, 1), False),
            ((20, 20, 20), True),
            ((0, None, None), False),
            ((None, 0, None), True),
            ((None, None, 0), False),
            ((2, None, 1), True),
            ((None, None, None), True),
        ]:
            self.right(((2, 2),), limits, SCRIPT, told)
        # Each step is counted behind what it lets go of and behind its making.
        both = ((A0, ()), (A1, ((0, 0),)), (B1, ()))
        self.right((), (1, 2, 0), both)
        self.right((), (1, 1, 0), both, False)
        self.right((), (0, 2, 0), both, False)
        self.right((), (0, 0, 0), ())

    def test_limits_of_one_kind_alone(self):
        web = Web(((0, ()),) * 21)
        script = tuple(((value, 0, ("rule", 0)), ()) for value in range(21))
        self.assertTrue(is_script(CHAIN, web, (), FREE, script))
        self.assertTrue(is_script(CHAIN, web, (), (20, 0, 0), script[:20]))
        self.assertFalse(is_script(CHAIN, web, (), (20, 0, 0), script))
        self.assertFalse(is_script(CHAIN, web, (), (19, 0, 0), script[:20]))

    def test_what_is_no_script(self):
        for odd in [None, list(SCRIPT), A0, LEFT, (A0,), *[odd for odd in ODD if odd != ()]]:
            self.right((), FREE, odd, False)
        for odd in NO_STEPS:
            self.right((), FREE, (odd,), False)
            self.right((), FREE, (odd,) + SCRIPT, False)

    def test_things_nested_deep(self):
        for make in [lambda inner: (inner,), lambda inner: [inner], lambda inner: {0: inner}, lambda inner: (inner, ())]:
            for depth in [40, 39, 38, 36]:
                deep = nested(make, depth)
                self.right((), FREE, deep, False)
                self.right((), FREE, (deep,), False)
                self.right((), FREE, ((deep, ()),), False)
                self.right((), FREE, ((A0, deep),), False)
                self.right((), FREE, ((A0, (deep,)),), False)

    def test_errors_in_their_order(self):
        for odd in NO_WEBS:
            with self.assertRaises(NoWeb):
                is_script(CHAIN, odd, None, None, None)
        for odd in NO_WISHES:
            for limits in [FREE, None]:
                with self.assertRaises(NoWishes):
                    is_script(CHAIN, STEPS, odd, limits, ())
        for odd in NO_LIMITS:
            with self.assertRaises(NoLimits):
                is_script(CHAIN, STEPS, (), odd, ())

    def test_books_and_webs_of_nothing(self):
        self.assertIs(is_script(CHAIN, EMPTY_WEB, (), FREE, ()), True)
        self.assertIs(is_script(EMPTY_BOOK, Web(((0, ()),)), (), (0,), ()), True)
        self.assertIs(is_script(EMPTY_BOOK, Web(((0, ()),)), (), (0,), (((0, 0, ("rule", 0)), ()),)), False)

    def test_the_seventh_fact_of_plans(self):
        for seed in range(40):
            book = random_book(seed)
            web = random_web(seed, book, 5)
            plan = some_plan(book, web)
            for wish in makeable(book, web):
                left_out = needless(book, web, (wish,), plan)
                kept = tuple(making for making in plan if making not in left_out)
                self.assertTrue(is_plan(book, web, (wish,), kept))
                script = tuple((making, ()) for making in kept)
                limits = tuple(len([each for each in kept if each[1] == kind]) for kind in range(book.kinds))
                self.assertTrue(is_script(book, web, (wish,), limits, script))
                for kind in range(book.kinds):
                    if limits[kind]:
                        lower = limits[:kind] + (limits[kind] - 1,) + limits[kind + 1:]
                        self.assertFalse(is_script(book, web, (wish,), lower, script))

    def test_against_the_words(self):
        many = {True: 0, False: 0}
        for seed in range(200):
            dice = random.Random(seed)
            book = random_book(seed)
            web = random_web(seed, book, 4)
            things = makeable(book, web)
            if not things:
                continue
            limits = tuple(dice.choice((None, 1, 2, 3)) for _ in range(book.kinds))
            script = ()
            for _ in range(30):
                thing = dice.choice(things)
                dropped = dice.sample(things, min(len(things), dice.choice((0, 0, 0, 1, 1, 2))))
                step = ((*thing, dice.choice(ways(book, web, thing))), tuple(sorted(dropped)))
                told = told_lots(book, web, limits, script + (step,))
                self.assertIs(is_script(book, web, (), limits, script + (step,)), told is not None)
                many[told is not None] += 1
                if told is not None:
                    script = script + (step,)
                    self.assertEqual(held(book, web, limits, script), [tuple(sorted(lot)) for lot in told])
                    for wish in things:
                        self.assertIs(is_script(book, web, (wish,), limits, script), wish in told[-1])
        self.assertGreater(min(many.values()), 300)


class ScriptPriceTest(unittest.TestCase):
    def test_prices(self):
        self.assertEqual(script_price(CHAIN, STEPS, FREE, ()), 0)
        self.assertEqual(script_price(CHAIN, STEPS, FREE, SCRIPT), 4)
        self.assertEqual(script_price(CHAIN, STEPS, (2, 0, 1), SCRIPT), 4)
        self.assertEqual(script_price(CHAIN, STEPS, FREE, ((A1, ()), (B1, ()), (RIGHT_TOP, ()), (A1, ((0, 1),)))), 6)
        moved = (((0, 1, ("rule", 1)), ()), ((0, 0, ("move", 1)), ()))
        self.assertEqual(script_price(MOVING, SHARED, (None,) * 4, moved), 3)

    def test_errors_in_their_order(self):
        for function in [script_price, held]:
            for odd in NO_WEBS:
                with self.assertRaises(NoWeb):
                    function(CHAIN, odd, None, None)
            for odd in NO_LIMITS:
                for script in [(), None]:
                    with self.assertRaises(NoLimits):
                        function(CHAIN, STEPS, odd, script)
            for odd in [None, list(SCRIPT), *[(odd,) for odd in NO_STEPS], SCRIPT[1:], SCRIPT + SCRIPT]:
                with self.assertRaises(NoScript):
                    function(CHAIN, STEPS, FREE, odd)
            for limits in [(1, None, None), (2, 0, 0)]:
                with self.assertRaises(NoScript):
                    function(CHAIN, STEPS, limits, SCRIPT)


class HeldTest(unittest.TestCase):
    def test_lots(self):
        self.assertEqual(held(CHAIN, STEPS, FREE, ()), [])
        self.assertEqual(held(CHAIN, STEPS, FREE, SCRIPT), [((0, 0),), ((0, 0), (1, 0)), ((1, 0), (2, 2))])
        again = SCRIPT + ((A0, ()), (A1, ((0, 0), (2, 2))))
        self.assertEqual(held(CHAIN, STEPS, FREE, again)[3:], [((0, 0), (1, 0), (2, 2)), ((0, 1), (1, 0))])
        self.assertEqual(held(CHAIN, STEPS, (1, 0, 0), ((A0, ()), (A0, ((0, 0),)))), [((0, 0),), ((0, 0),)])

    def test_a_new_list(self):
        held(CHAIN, STEPS, FREE, SCRIPT).clear()
        self.assertEqual(len(held(CHAIN, STEPS, FREE, SCRIPT)), 3)

    def test_rules_that_need_one_thing_twice(self):
        book = Book((0, 2), 1, ((0, (), 0, 1), (1, (0, 0), 0, 1)), ())
        web = Web(((0, ()), (1, (0, 0))))
        script = (((0, 0, ("rule", 0)), ()), ((1, 0, ("rule", 1)), ()))
        self.assertEqual(held(book, web, (2,), script), [((0, 0),), ((0, 0), (1, 0))])
        with self.assertRaises(NoScript):
            held(book, web, (1,), script)


if __name__ == "__main__":
    unittest.main()
