"""A console: commands as strings, and their answers."""

from aliasparams.alike import parting
from aliasparams.errors import NoCommand
from aliasparams.expansion import expanded, same
from aliasparams.names import is_name
from aliasparams.parts import laid_out
from aliasparams.registry import Registry
from aliasparams.substitution import applied
from aliasparams.texts import read, read_argument, show
from aliasparams.writing import written


class Desk:
    """A registry that is told commands."""

    def __init__(self):
        self._registry = Registry()

    def say(self, command):
        """The answer to any value that is a command. Raises NoCommand, and what
        the command raises."""
        if not isinstance(command, str):
            raise NoCommand()
        word, space, rest = command.partition(" ")
        action = _ACTIONS.get(word)
        if action is None:
            raise NoCommand()
        return action(self._registry, rest if space else None)


def _plain(registry, rest):
    name, *bound = _names(rest)
    return _touched(registry.add(("parameter", name, "plain", tuple(bound) or None)))


def _variadic(registry, rest):
    name = _only_name(rest)
    return _touched(registry.add(("parameter", name, "variadic", None)))


def _signature(registry, rest):
    name = _only_name(rest)
    return _touched(registry.add(("parameter", name, "signature", None)))


def _class(registry, rest):
    name, parameters, behind = _head(rest)
    if behind and not behind.startswith(" "):
        raise NoCommand()
    base = read(registry.book, behind[1:]) if behind else None
    return _touched(registry.add(("class", name, parameters, base)))


def _alias(registry, rest):
    name, parameters, behind = _head(rest)
    if not behind.startswith(" = "):
        raise NoCommand()
    body = read(registry.book, behind[3:])
    return _touched(registry.add(("alias", name, parameters, body)))


def _bound(registry, rest):
    name, *bound = _names(rest)
    return _touched(registry.set_bound(name, tuple(bound) or None))


def _base(registry, rest):
    name, space, text = _text(rest).partition(" ")
    _check_name(name)
    return _touched(registry.set_base(name, read(registry.book, text) if space else None))


def _body(registry, rest):
    name, space, text = _text(rest).partition(" ")
    _check_name(name)
    if not space:
        raise NoCommand()
    return _touched(registry.set_body(name, read(registry.book, text)))


def _drop(registry, rest):
    return _touched(registry.drop(_only_name(rest)))


def _undo(registry, rest):
    if rest is not None:
        raise NoCommand()
    return _touched(registry.undo())


def _show(registry, rest):
    term = read(registry.book, _text(rest))
    return show(expanded(registry.book, term))


def _give(registry, rest):
    text, *texts = _text(rest).split(" ; ")
    term = read(registry.book, text)
    row = [read_argument(registry.book, given) for given in texts]
    return show(applied(registry.book, term, row))


def _alike(registry, rest):
    names = _names(rest)
    if len(names) != 2:
        raise NoCommand()
    row = parting(registry.book, names[0], names[1])
    if row is None:
        return "alike"
    return "parted by " + " ; ".join([_argument(value) for value in row]) if row else "parted"


def _same(registry, rest):
    one, sign, other = _text(rest).partition(" == ")
    if not sign:
        raise NoCommand()
    terms = [read(registry.book, text) for text in (one, other)]
    return "yes" if same(registry.book, terms[0], terms[1]) else "no"


def _argument(value):
    """The text of a closed value in a row that parts two aliases."""
    text = written(laid_out(value))
    return f"[*{text}]" if value[0] == "[]" else text


def _touched(names):
    return " ".join(names) if names else "none"


def _text(rest):
    """What stands behind the first space of a command. Raises NoCommand."""
    if rest is None:
        raise NoCommand()
    return rest


def _names(rest):
    """The list of the names that a command consists of, one at least. Raises NoCommand."""
    names = _text(rest).split(" ")
    for name in names:
        _check_name(name)
    return names


def _only_name(rest):
    """The name that a command consists of. Raises NoCommand."""
    _check_name(rest)
    return rest


def _check_name(value):
    if not is_name(value):
        raise NoCommand()


def _head(rest):
    """The name and the parameters that a command begins with, and what stands
    behind them. Raises NoCommand."""
    text = _text(rest)
    end = 0
    while "a" <= text[end:end + 1] <= "z":
        end += 1
    _check_name(text[:end])
    if text[end:end + 1] != "[":
        return text[:end], (), text[end:]
    inside, bracket, behind = text[end + 1:].partition("]")
    if not bracket:
        raise NoCommand()
    names = inside.split(", ")
    for name in names:
        _check_name(name)
    return text[:end], tuple(names), behind


_ACTIONS = {
    "plain": _plain, "variadic": _variadic, "signature": _signature, "class": _class, "alias": _alias,
    "bound": _bound, "base": _base, "body": _body, "drop": _drop, "undo": _undo, "show": _show,
    "give": _give, "alike": _alike, "same": _same,
}
