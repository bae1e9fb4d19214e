"""Choices: a usable way for each makeable thing, and the choosers that tell them."""

from lookdown.errors import BadChooser, NoChoice
from lookdown.plans import check_wishes
from lookdown.things import all_in, is_way_to, makeable, needs_for, way_price
from lookdown.webs import check_web, part_web


def is_choice(book, web, thing):
    """Whether a thing is a choice for the web."""
    check_web(book, web)
    made = {each: True for each in makeable(book, web)}
    # The keys may be of any kind: they are counted and looked for, never looked into.
    if not (isinstance(thing, dict) and len(thing) == len(made) and all_in(thing, made)):
        return False
    usable = all([_is_usable(book, web, made, each, thing[each]) for each in made])
    return usable and _first_that_returns(book, thing) is None


def check_choice(book, web, choice):
    """Raise NoWeb for what is no web of the book, then NoChoice for what is no choice."""
    if not is_choice(book, web, choice):
        raise NoChoice()


def _is_usable(book, web, made, target, thing):
    """Whether a thing is a way to the target all of whose needs are in a dict of things."""
    return is_way_to(book, web, target, thing) and all_in(made, needs_for(book, web, target, thing))


def _first_that_returns(book, choice):
    """The least thing from which its ways come back to it, or None."""
    for thing in sorted(choice):
        if _returns(book, choice, thing):
            return thing
    return None


def _returns(book, choice, thing):
    # Rules need earlier values, so only a row of moves can come back.
    value, kind = thing
    reached = kind
    for _ in range(book.kinds):
        word, k = choice[(value, reached)]
        if word == "rule":
            return False
        reached = book.moves[k][0]
        if reached == kind:
            return True
    return False


def needed(book, web, choice, things):
    """The lot of all that is needed by some things, as the choice makes it."""
    check_choice(book, web, choice)
    check_wishes(book, web, things)
    return tuple(sorted(needed_by(links_of(book, web, choice), things)))


def plan_by(book, web, choice, wishes):
    """The plan of just what the wishes need by the choice."""
    check_choice(book, web, choice)
    check_wishes(book, web, wishes)
    return plan_of(book, web, choice, wishes)


def cost(book, web, choice, wishes):
    """The price of the plan for wishes by the choice."""
    return sum([way_price(book, way) for _, _, way in plan_by(book, web, choice, wishes)])


def links_of(book, web, choice):
    """The dict from each thing to what its way by the choice needs."""
    return {thing: needs_for(book, web, thing, choice[thing]) for thing in choice}


def needed_by(links, things):
    """The list of all that is needed by some things, themselves among it, in no certain order."""
    found = {thing: True for thing in things}
    left = list(found)
    while left:
        thing = left.pop()
        for need in links[thing]:
            if need not in found:
                found[need] = True
                left.append(need)
    return list(found)


def plan_of(book, web, choice, things):
    """As plan_by, of what are known to be a choice and some makeable things."""
    links = links_of(book, web, choice)
    left = sorted(needed_by(links, things))
    made = {}
    while left:
        thing = _first_ready(links, made, left)
        made[thing] = True
        left.remove(thing)
    return tuple([(value, kind, choice[(value, kind)]) for value, kind in made])


def _first_ready(links, made, things):
    """The first of some things whose needs are made; there is one, for nothing returns."""
    for thing in things:
        if all_in(made, links[thing]):
            return thing
    return None


def chosen(book, web, chooser):
    """The choice that a chooser makes, who is told what a value is made of and a kind."""
    check_web(book, web)
    made = {each: True for each in makeable(book, web)}
    choice = {}
    for value in range(len(web.rows)):
        kinds = [kind for kind in range(book.kinds) if (value, kind) in made]
        part = part_web(web, value)
        for kind in kinds:
            thing = (value, kind)
            way = chooser(book, part, kind)
            if not _is_usable(book, web, made, thing, way):
                raise BadChooser(thing)
            choice[thing] = way
    back = _first_that_returns(book, choice)
    if back is not None:
        raise BadChooser(back)
    return choice
