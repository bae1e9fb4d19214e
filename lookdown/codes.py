"""Codes: programs compiled by choices to rows of cells, and their run on these."""

from lookdown.checks import is_tuple_of
from lookdown.choices import is_choice, plan_of
from lookdown.errors import NoChoices, NoCode
from lookdown.programs import check_run, meant, outcome, web_of, wishes_of
from lookdown.things import all_in, needs_by_parts, way_price


def code_of(program, choices):
    """The code: for each block the tuple of its rows (way, cells, cell)."""
    return tuple([rows for rows, _ in _all_coded(program, choices)])


def _all_coded(program, choices):
    """For each block what coded tells of it."""
    if not _are_choices(program, choices):
        raise NoChoices()
    return [coded(program, block, choice) for block, choice in enumerate(choices)]


def _are_choices(program, thing):
    many = len(program.blocks)
    return is_tuple_of(many, many, thing) and all(
        [is_choice(program.book, web_of(program, block), choice) for block, choice in enumerate(thing)]
    )


def coded(program, block, choice):
    """The pair of the rows of a block by a choice and the dict from its wishes to their cells behind the last row."""
    wishes = wishes_of(program, block)
    if not all_in(choice, wishes):
        raise NoCode(block)
    book = program.book
    web = web_of(program, block)
    plan = plan_of(book, web, choice, wishes)
    lasts = _last_rows(book, web, plan, wishes)
    places = {}
    lying = []
    rows = []
    for at, (value, kind, way) in enumerate(plan):
        thing = (value, kind)
        sources = tuple([places[need] for need in needs_by_parts(book, web, thing, way)])
        cell = _free_cell(lying, lasts, at)
        # Also right for a cell behind all others, in which nothing lay.
        lying[cell:cell + 1] = [thing]
        places[thing] = cell
        rows.append((way, sources, cell))
    return (tuple(rows), {wish: places[wish] for wish in wishes})


def _last_rows(book, web, plan, wishes):
    """The dict from what a plan makes to the last making that needs it; for wishes a number behind all makings."""
    lasts = {}
    for at, (value, kind, way) in enumerate(plan):
        for need in needs_by_parts(book, web, (value, kind), way):
            lasts[need] = at
    for wish in wishes:
        lasts[wish] = len(plan)
    return lasts


def _free_cell(lying, lasts, at):
    """The least cell in which nothing lies that a making from this one on needs, or that is wished."""
    for cell, thing in enumerate(lying):
        if lasts[thing] < at:
            return cell
    return len(lying)


def cells_of(code):
    """How many cells the rows of a code name, up to the greatest one."""
    many = 0
    for rows in code:
        for _, cells, cell in rows:
            many = max([many, cell + 1, *[each + 1 for each in cells]])
    return many


def ran(program, choices, inputs, most):
    """The run on cells: the word given back or None, how many blocks were done, and the price of all rows done."""
    codes = _all_coded(program, choices)
    check_run(program, inputs, most)
    block = 0
    handed = inputs
    paid = 0
    for done in range(most):
        rows, places = codes[block]
        words = {}
        for way, cells, cell in rows:
            words[cell] = row_word(program, handed, words, way, cells)
            paid += way_price(program.book, way)
        block, handed = outcome_on_cells(program, program.blocks[block][2], places, words)
        if block is None:
            return (handed, done + 1, paid)
    return (None, most, paid)


def row_word(program, handed, words, way, cells):
    """The word that a row gives, of the words of its cells, in a block that is handed some words."""
    told = [words[cell] for cell in cells]
    word, k = way
    if word == "move":
        return told[0]
    op = program.book.rules[k][0]
    return meant(program.meanings[op], handed, told)


def outcome_on_cells(program, end, places, words):
    """As outcome, by the words of the cells in which the wishes lie."""
    handed = {}
    tested = {}
    for (value, kind), cell in places.items():
        if kind == program.hand:
            handed[value] = words[cell]
        if kind == program.test:
            tested[value] = words[cell]
    return outcome(end, handed, tested)
