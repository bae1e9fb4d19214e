"""Verdicts: whether some chooser that looks down alone is best for all webs of a book."""

from lookdown.errors import TooMany
from lookdown.standings import standings_table
from lookdown.things import all_in, way_price
from lookdown.webs import moved, web_of_rows


class Link:
    """What the price of a kind's needs beyond another kind's hangs on, for all trees of a standing.

    The op at the top, the price that the top itself adds, and for each row of parts that
    gives the standing the tuple of the triples (standing, kind, other kind) by which these add.
    """

    def __init__(self, op, price, lots):
        self.op = op
        self.price = price
        self.lots = lots


class Claim:
    """A way of a kind, at a top and parts of some standings, and what its extra hangs on.

    The lot holds a triple for each part. A rule is usable just if there are all these triples.
    """

    def __init__(self, place, price, lot):
        # The tuple (op, parts, kind, way).
        self.place = place
        self.price = price
        self.lot = lot


def wides(book):
    """The dict from triples to the greatest price of a kind's needs beyond another's, None for no greatest."""
    found, table = standings_table(book)
    return _greatest(_links(book, found, table))


def verdict(book):
    """The least tuple (op, parts, kind, way) at which a way is undercut in some tree, or None."""
    found, table = standings_table(book)
    widest = _greatest(_links(book, found, table))
    claim = _first_undercut(book, _claims(book, found, table), widest)
    return None if claim is None else claim.place


def failing(book):
    """A tree of as few storeys as can be, a thing of its last value and a way that is undercut, or None."""
    found, table = standings_table(book)
    links = _links(book, found, table)
    claims = _claims(book, found, table)
    if _first_undercut(book, claims, _greatest(links)) is None:
        return None
    # Parts have a storey less than what is made of them, so the first trees have none.
    grown = {}
    for _ in range(12):
        claim = _first_undercut(book, claims, {triple: worth for triple, (worth, _) in grown.items()})
        if claim is not None:
            return _told_failing(claim, grown)
        grown = _taller(links, grown)
    raise TooMany(12)


def _told_failing(claim, grown):
    """The triple of a web, a thing and a way for a claim that is undercut with parts from the dict."""
    op, _, kind, way = claim.place
    rows = _rows_of_tree((op, tuple([grown[triple][1] for triple in claim.lot])))
    return (web_of_rows(rows), (len(rows) - 1, kind), way)


def _rows_of_tree(tree):
    """The rows of a tree, which is a pair of an op and the tuple of the trees of its parts."""
    op, parts = tree
    rows = []
    tops = []
    for part in parts:
        rows = rows + moved(_rows_of_tree(part), len(rows))
        tops.append(len(rows) - 1)
    return rows + [(op, tuple(tops))]


def _made_kinds(ways):
    return [kind for kind, way in enumerate(ways) if way is not None]


def _trail(book, ways, kind):
    """The pair of the kinds that own ways come through from this one on and the sources of the rule at the end."""
    passed = [kind]
    word, k = ways[kind]
    while word == "move":
        passed.append(book.moves[k][0])
        word, k = ways[passed[-1]]
    return (passed, book.rules[k][1])


def _beyond(book, ways, kind, passed, sources):
    """The pair of a price and a list of pairs of kinds: what a kind needs beyond some needs.

    These are the kinds passed of the same value, and its parts in the sources. The price is
    what the value itself adds; a pair (source, other) stands for what each part adds.
    """
    own_passed, own_sources = _trail(book, ways, kind)
    price = sum([way_price(book, ways[each]) for each in own_passed if each not in passed])
    return (price, list(zip(own_sources, sources)))


def _triples(parts, pairs):
    """The tuple of the triples of some parts, a pair of kinds for each."""
    return tuple([(part, kind, other) for part, (kind, other) in zip(parts, pairs)])


def _links(book, found, table):
    """The dict from all triples (standing, kind, other kind) to their Links."""
    tops = [[] for _ in found]
    for top, number in table.items():
        tops[number].append(top)
    links = {}
    for number, (_, ways) in enumerate(found):
        # A kind's own way tells the op, so all tops of such a standing have the same one.
        op = tops[number][0][0]
        kinds = _made_kinds(ways)
        for kind in kinds:
            for other in kinds:
                passed, sources = _trail(book, ways, other)
                price, pairs = _beyond(book, ways, kind, passed, sources)
                lots = [_triples(parts, pairs) for _, parts in tops[number]]
                links[(number, kind, other)] = Link(op, price, lots)
    return links


def _claims(book, found, table):
    """The list of the Claims of all rules and usable moves, their places ascending."""
    claims = []
    for op, parts in sorted(table):
        ways = found[table[(op, parts)]][1]
        for kind in _made_kinds(ways):
            for k, (source, given, _) in enumerate(book.moves):
                if given == kind and ways[source] is not None:
                    passed, sources = _trail(book, ways, source)
                    price, pairs = _beyond(book, ways, kind, passed, sources)
                    claims.append(Claim((op, parts, kind, ("move", k)), price, _triples(parts, pairs)))
            for k, (rule_op, sources, given, _) in enumerate(book.rules):
                if (rule_op, given) == (op, kind):
                    price, pairs = _beyond(book, ways, kind, [], sources)
                    claims.append(Claim((op, parts, kind, ("rule", k)), price, _triples(parts, pairs)))
    return claims


def _first_undercut(book, claims, widest):
    """The first Claim whose greatest extra is more than the way's price, or None.

    widest leads from triples to what they come to, None for no greatest. A claim on a
    triple that it does not hold is none: of a way that is not usable, or on taller parts.
    """
    for claim in claims:
        if all_in(widest, claim.lot):
            worths = [widest[triple] for triple in claim.lot]
            if None in worths or claim.price + sum(worths) > way_price(book, claim.place[3]):
                return claim
    return None


def _greatest(links):
    """The dict from triples to the greatest that they come to, None for no greatest."""
    endless = _endless(links)
    widest = {triple: None if triple in endless else 0 for triple in links}
    # What has an end has it without going round, so this comes to rest.
    changed = True
    while changed:
        changed = False
        for triple, link in links.items():
            if triple not in endless:
                worth = link.price + max([sum([widest[part] for part in lot]) for lot in link.lots])
                if worth > widest[triple]:
                    widest[triple] = worth
                    changed = True
    return widest


def _endless(links):
    """The dict of the triples that come to more than any number.

    A top whose kind adds nothing lies in what the other kind needs, and so do its parts: then
    nothing is added below it, either. All else that hangs on itself adds more each time round.
    """
    bits = {triple: 1 << at for at, triple in enumerate(links)}
    masks = _masks_below(links, bits)
    growing = sum([bits[triple] for triple, link in links.items() if link.price > 0 and masks[triple] & bits[triple]])
    return {triple: True for triple in links if (masks[triple] | bits[triple]) & growing}


def _masks_below(links, bits):
    """The dict from triples to the masks of all triples that they hang on."""
    masks = {triple: 0 for triple in links}
    changed = True
    while changed:
        changed = False
        for triple, link in links.items():
            mask = masks[triple]
            for lot in link.lots:
                for part in lot:
                    mask = mask | bits[part] | masks[part]
            if mask != masks[triple]:
                masks[triple] = mask
                changed = True
    return masks


def _taller(links, grown):
    """For trees of at most one storey more than those of the dict the greatest that triples come to.

    Such a dict leads from triples to pairs: what the triple comes to and a tree for it.
    """
    taller = {}
    for triple, link in links.items():
        best = grown.get(triple)
        for lot in link.lots:
            if all_in(grown, lot):
                worth = link.price + sum([grown[part][0] for part in lot])
                if best is None or worth > best[0]:
                    best = (worth, (link.op, tuple([grown[part][1] for part in lot])))
        if best is not None:
            taller[triple] = best
    return taller
