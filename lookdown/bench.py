"""A bench: a web, wishes and a book that are changed by deeds, of which each one works out anew what it reaches."""

from lookdown.checks import is_between
from lookdown.choices import links_of, needed_by
from lookdown.errors import LookError, NothingDone, NoThing, NoValue, NoWish, TooMany
from lookdown.judging import undercut_of
from lookdown.standings import standing_of
from lookdown.texts import line_of, numbers_of, whole_lines
from lookdown.things import is_thing, repriced, way_price
from lookdown.webs import Web, is_value_of


class Bench:
    """A web, wishes and a book as they are now, and the deeds that led here."""

    def __init__(self, book):
        self._book = book
        self._rows = []
        self._labels = []
        self._wished = {}
        # Each deed is (what, at, old, new): it gave something at a place, which was old, what is new.
        self._deeds = []
        # So many of them are done; those behind were taken back.
        self._done = 0
        self._lines = []
        self._looked = []

    def put(self, op, parts):
        """One value more; returns its number."""
        value = len(self._rows)
        if not is_value_of(self._book, value, (op, parts)):
            raise NoValue()
        if value == 200:
            raise TooMany(200)
        self._do(["put", op, *parts], ("value", value, None, (op, parts)))
        return value

    def turn(self, value, op, parts):
        """A value gets another op and parts."""
        self._check_value(value)
        if not is_value_of(self._book, value, (op, parts)):
            raise NoValue()
        self._do(["turn", value, op, *parts], ("value", value, self._rows[value], (op, parts)))

    def wish(self, thing):
        """A thing is wished, perhaps once more."""
        if not is_thing(self._book, self.web(), thing):
            raise NoThing()
        self._do(["wish", *thing], ("wish", thing, thing in self._wished, True))

    def drop(self, thing):
        """A thing is wished no more."""
        if not (is_thing(self._book, self.web(), thing) and thing in self._wished):
            raise NoWish()
        self._do(["drop", *thing], ("wish", thing, True, False))

    def reprice(self, way, price):
        """A way gets another price."""
        # Asked for ahead of the deed, for it raises what is to be raised.
        repriced(self._book, way, price)
        self._do([*way, price], ("price", way, way_price(self._book, way), price))

    def undo(self):
        """Takes back the last deed that is not taken back."""
        if self._done == 0:
            raise NothingDone()
        self._done -= 1
        what, at, old, new = self._deeds[self._done]
        self._lines.append("undo")
        self._change(what, at, new, old)

    def redo(self):
        """Does the deed again that was taken back last."""
        if self._done == len(self._deeds):
            raise NothingDone()
        what, at, old, new = self._deeds[self._done]
        self._done += 1
        self._lines.append("redo")
        self._change(what, at, old, new)

    def web(self):
        """The Web as it is now."""
        return Web(tuple(self._rows))

    def book_now(self):
        """The Book as it is now."""
        return self._book

    def wishes(self):
        """The lot of what is wished, makeable or not."""
        return tuple(sorted(self._wished))

    def gaps(self, value):
        """For each kind how much dearer the value is there than in its cheapest kind, None if it is not makeable."""
        self._check_value(value)
        return self._labels[value][0]

    def own_ways(self, value):
        """For each kind the own way of the value, None if it is not makeable."""
        self._check_value(value)
        return self._labels[value][1]

    def total(self):
        """The cost of the makeable wishes by own ways."""
        choice = self._own_choice()
        wishes = [thing for thing in self._wished if thing in choice]
        needed = needed_by(links_of(self._book, self.web(), choice), wishes)
        return sum([way_price(self._book, choice[thing]) for thing in needed])

    def undercut(self):
        """The least pair of a thing and a way that is undercut by own ways, or None."""
        return undercut_of(self._book, self.web(), self._own_choice())

    def looked(self):
        """The ascending list of the values that the last deed, undo or redo labelled anew."""
        return list(self._looked)

    def copy(self):
        """A Bench that goes on apart."""
        other = Bench(self._book)
        other._rows = list(self._rows)
        other._labels = list(self._labels)
        other._wished = {thing: True for thing in self._wished}
        other._deeds = list(self._deeds)
        other._done = self._done
        other._lines = list(self._lines)
        other._looked = list(self._looked)
        return other

    def journal(self):
        """The text of all that was done, a line for each deed, undo and redo."""
        return "".join([line + "\n" for line in self._lines])

    def _check_value(self, value):
        if not is_between(0, len(self._rows) - 1, value):
            raise NoValue()

    def _own_choice(self):
        choice = {}
        for value, (_, ways) in enumerate(self._labels):
            for kind, way in enumerate(ways):
                if way is not None:
                    choice[(value, kind)] = way
        return choice

    def _do(self, words, deed):
        """Does a deed that is known to be right, and writes it down."""
        what, at, old, new = deed
        # Behind another deed nothing that was taken back can be done again.
        del self._deeds[self._done:]
        self._deeds.append(deed)
        self._done += 1
        self._lines.append(line_of(words))
        self._change(what, at, old, new)

    def _change(self, what, at, old, new):
        """Puts what is new in the place of what is old, and labels anew what this reaches."""
        if what == "value":
            self._set_row(at, new)
            self._label([at] if old != new else [])
        elif what == "price":
            self._book = repriced(self._book, at, new)
            self._label(self._values_by(at))
        else:
            self._set_wished(at, new)
            self._label([])

    def _set_row(self, value, row):
        """Gives a value its row; None takes it away, one behind all others is a new value."""
        if row is None:
            self._rows.pop()
            self._labels.pop()
        elif value == len(self._rows):
            self._rows.append(row)
            self._labels.append(None)
        else:
            self._rows[value] = row

    def _set_wished(self, thing, wished):
        if wished:
            self._wished[thing] = True
        elif thing in self._wished:
            del self._wished[thing]

    def _values_by(self, way):
        """The list of the values of which something can be made by the price of a way."""
        word, k = way
        if word == "move":
            return list(range(len(self._rows)))
        return [value for value, (op, _) in enumerate(self._rows) if op == self._book.rules[k][0]]

    def _label(self, values):
        """Labels anew some values, and on from these each one of which a part gets another label."""
        first = {value: True for value in values}
        others = {}
        self._looked = []
        for value, (op, parts) in enumerate(self._rows):
            if value in first or any([part in others for part in parts]):
                self._looked.append(value)
                label = standing_of(self._book, op, [self._labels[part] for part in parts])
                if label != self._labels[value]:
                    others[value] = True
                    self._labels[value] = label


def replayed(book, journal):
    """The pair of a Bench on which the lines of a journal are done, and how many signs of it were."""
    lines = whole_lines(journal)
    bench = Bench(book)
    many = 0
    for line in lines:
        if not _is_done(bench, line):
            break
        many += len(line) + 1
    return (bench, many)


def _is_done(bench, line):
    """Whether a line is written right and can be done on a bench, on which it is done then."""
    words = line.split(" ")
    told = numbers_of(words[1:])
    if told is None:
        return False
    try:
        return _is_told_done(bench, words[0], told)
    except LookError:
        return False


def _is_told_done(bench, word, told):
    """Whether a word with some numbers is a line; it is done then, or an error is raised."""
    many = len(told)
    if word == "put" and many >= 1:
        bench.put(told[0], told[1:])
    elif word == "turn" and many >= 2:
        bench.turn(told[0], told[1], told[2:])
    elif word == "wish" and many == 2:
        bench.wish(told)
    elif word == "drop" and many == 2:
        bench.drop(told)
    elif word in ("rule", "move") and many == 2:
        bench.reprice((word, told[0]), told[1])
    elif word == "undo" and many == 0:
        bench.undo()
    elif word == "redo" and many == 0:
        bench.redo()
    else:
        return False
    return True
