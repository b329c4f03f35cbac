"""A console: commands in words for a desk, with answers in words."""

from rimorders.checks import is_name
from rimorders.desks import Desk
from rimorders.errors import InvalidCommand, InvalidText
from rimorders.limits import MOST_COUNT
from rimorders.lots import Lot, fraction_text, simplest
from rimorders.steps import parting
from rimorders.telling import judge, orders_in

_MOST_NUMBER = 99


class Console:
    """A desk that is told what to do in words."""

    def __init__(self):
        self._desk = Desk()

    @property
    def desk(self):
        """The desk that the commands are about."""
        return self._desk

    def run(self, command):
        """Does a command and returns its answer."""
        head, told = _read(command)
        action = _ACTIONS[head]
        answer = action(self._desk, told)
        # Only questions have an answer of their own.
        return "ok" if answer is None else answer


def _read(command):
    """The word or words that a command begins with, and a tuple of the last one of these and what it tells."""
    if not isinstance(command, str):
        raise InvalidCommand(command)
    words = command.split(" ")
    many = 2 if words[0] == "claim" else 1
    head, rest = " ".join(words[:many]), words[many:]
    if head not in _FORMS:
        raise InvalidCommand(command)
    kinds = _FORMS[head]
    if kinds[-1:] == ("text",):
        # A text alone may have several words.
        rest = [*rest[:1], " ".join(rest[1:])]
    told = [words[many - 1]]
    for kind, word in zip(kinds, rest):
        reader = _READERS[kind]
        told.append(reader(word))
    if len(rest) != len(kinds) or any([part is None for part in told]):
        raise InvalidCommand(command)
    return head, tuple(told)


def _read_name(word):
    return word if is_name(word) else None


def _read_number(word):
    return _read_digits(word, _MOST_NUMBER)


def _read_step(word):
    """The pair of numbers that it tells; whether this is a step is asked by whoever takes it."""
    top, _, bottom = word.partition("/")
    pair = _read_digits(top, MOST_COUNT), _read_digits(bottom, MOST_COUNT)
    return None if None in pair or pair[1] == 0 else pair


def _read_lot(words):
    try:
        return Lot.read(words)
    except InvalidText:
        return None


def _read_digits(word, most):
    """The number up to the most one that it tells without needless zeros, None if it tells none."""
    # Python turns no more than some thousand digits into a number.
    if not word.isascii() or not word.isdigit() or len(word) > len(str(most)):
        return None
    number = int(word)
    return number if number <= most and str(number) == word else None


def _put(desk, told):
    _, name, lot = told
    desk.put(name, lot)


def _drop(desk, told):
    desk.drop(told[1])


def _lift(desk, told):
    desk.lift(told[1])


def _undo(desk, _):
    desk.undo()


def _claim(desk, told):
    desk.claim(told)


def _claim_sure(desk, told):
    word, name, *marks = told
    desk.claim(("sure", name, (word, *marks)))


def _judge(desk, told):
    word, name, *marks = told
    return judge(desk.thing(name), (word, *marks))


def _simplest(desk, told):
    return fraction_text(simplest(desk.thing(told[1])))


def _orders(desk, told):
    _, name, count = told
    return str(orders_in(desk.thing(name), count))


def _parting(_, told):
    number = parting(told[1], told[2])
    return "never" if number is None else str(number)


def _show(desk, told):
    return desk.thing(told[1]).text


def _names(desk, _):
    return " ".join(desk.names)


def _claims(desk, _):
    return str(len(desk.claims))


_READERS = {"name": _read_name, "number": _read_number, "step": _read_step, "text": _read_lot}
_FORMS = {
    "lot": ("name", "text"),
    "drop": ("name",),
    "lift": ("number",),
    "undo": (),
    "claim inside": ("name", "name"),
    "claim order": ("name", "number"),
    "claim turn": ("name", "number", "number", "number"),
    "claim on": ("name", "number", "number"),
    "claim next": ("name", "number", "number", "number"),
    "turn": ("name", "number", "number", "number"),
    "on": ("name", "number", "number"),
    "next": ("name", "number", "number", "number"),
    "simplest": ("name",),
    "orders": ("name", "number"),
    "parting": ("step", "step"),
    "show": ("name",),
    "names": (),
    "claims": (),
}
_ACTIONS = {
    "lot": _put,
    "drop": _drop,
    "lift": _lift,
    "undo": _undo,
    "claim inside": _claim,
    "claim order": _claim,
    "claim turn": _claim_sure,
    "claim on": _claim_sure,
    "claim next": _claim_sure,
    "turn": _judge,
    "on": _judge,
    "next": _judge,
    "simplest": _simplest,
    "orders": _orders,
    "parting": _parting,
    "show": _show,
    "names": _names,
    "claims": _claims,
}
