"""Books: the rules and moves by which a machine makes values."""

from lookdown.checks import is_between, is_tuple_of
from lookdown.errors import BadBook


class Book:
    """How many parts each op has, how many kinds there are, the rules and the moves."""

    def __init__(self, arities, kinds, rules, moves):
        _check_frame(arities, kinds, rules, moves)
        _check_rules(arities, kinds, rules)
        _check_moves(kinds, moves)
        self.arities = arities
        self.kinds = kinds
        self.rules = rules
        self.moves = moves

    def __eq__(self, other):
        return (
            isinstance(other, Book)
            and self.arities == other.arities
            and self.kinds == other.kinds
            and self.rules == other.rules
            and self.moves == other.moves
        )


def _check_frame(arities, kinds, rules, moves):
    # The document names all four of these ahead of any single rule or move.
    if not (is_tuple_of(1, 8, arities) and all([is_between(0, 2, arity) for arity in arities])):
        raise BadBook(("arities",))
    if not is_between(1, 5, kinds):
        raise BadBook(("kinds",))
    if not is_tuple_of(0, 40, rules):
        raise BadBook(("rules",))
    if not is_tuple_of(0, 20, moves):
        raise BadBook(("moves",))


def _check_rules(arities, kinds, rules):
    seen = {}
    for k, rule in enumerate(rules):
        if not _is_rule(arities, kinds, rule) or rule[:3] in seen:
            raise BadBook(("rule", k))
        seen[rule[:3]] = True


def _check_moves(kinds, moves):
    seen = {}
    for k, move in enumerate(moves):
        if not _is_move(kinds, move) or move[:2] in seen:
            raise BadBook(("move", k))
        seen[move[:2]] = True


def _is_rule(arities, kinds, thing):
    if not is_tuple_of(4, 4, thing):
        return False
    op, sources, kind, cost = thing
    return (
        is_between(0, len(arities) - 1, op)
        and is_tuple_of(arities[op], arities[op], sources)
        and all([is_between(0, kinds - 1, source) for source in sources])
        and is_between(0, kinds - 1, kind)
        and is_price(cost)
    )


def _is_move(kinds, thing):
    if not is_tuple_of(3, 3, thing):
        return False
    source, kind, cost = thing
    return (
        is_between(0, kinds - 1, source)
        and is_between(0, kinds - 1, kind)
        and source != kind
        and is_price(cost)
    )


def is_price(thing):
    """Whether a thing is what a rule or a move can cost."""
    return is_between(1, 1000, thing)
