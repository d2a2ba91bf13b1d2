"""What several tests hand in: things of every kind, and nets far beyond the bounds."""

import itertools


class Touchy:
    """A thing that fails wherever it is compared, counted, walked or asked for its truth."""

    def fail(self, *parts):
        raise RuntimeError("touched")

    __eq__ = __ne__ = __lt__ = __le__ = __gt__ = __ge__ = fail
    __hash__ = __len__ = __iter__ = __bool__ = __getitem__ = __contains__ = fail


def nested(wrap, depth):
    """A thing wrapped depth times."""
    thing = wrap(())
    for _ in range(depth - 1):
        thing = wrap(thing)
    return thing


def of_no_text():
    """Things of every kind but texts."""
    return [
        0, 1, -1, 10**30, True, False, None, 1.5, float("nan"), 2j, ...,
        b"", b"a", b"abc", bytearray(b"a"), memoryview(b"a"),
        [], ["a"], ["a", "b"], (), ("a",), ("a", "b"), ("s", "b", "a", 1),
        {}, {"a": 1}, {0: "a", 1: "b"}, set(), {"a"}, frozenset("ab"),
        range(2), iter("ab"), (sign for sign in "ab"), zip("a", "b"),
        len, str, tuple, print, lambda: "a", object(), Touchy, Touchy(), ValueError("a"),
        nested(lambda thing: (thing,), 60), nested(lambda thing: [thing], 60),
        nested(lambda thing: {"a": thing}, 60), nested(lambda thing: (thing, thing), 60),
    ]


def no_words():
    """Texts that are no words, and things of every other kind."""
    texts = [
        "", "abcdefghi", "a" * 1000, "A", "Z", "aB", "abcdefgH", "a1", "1", "0", " ", "a b", " a", "a ",
        "a\n", "\n", "a\tb", "a-b", "a_b", "a.", "`", "{", "@", "[", "a`", "a{", "\x00", "a\x00", "'a'",
        "\xe4", "\xdf", "\xb5", "\u0430", "\uff41", "\u0131", "\u00aa", "a\u0301", "\U0001d41a", "\ud800",
    ]
    return texts + of_no_text()


def kind(thing):
    """A thing's kind, for a failed test's words: the whole of a doubled tuple could not be written."""
    return f"{type(thing).__name__} {thing!r}" if isinstance(thing, str) else type(thing).__name__


def some_words(many):
    """Rising words, as many as asked for, each of four letters."""
    letters = "abcdefghijklmnopqrstuvwxyz"
    return ["".join(signs) for signs in itertools.islice(itertools.product(letters, repeat=4), many)]


def long_chain(many):
    """A net of many places, each tied to the next."""
    words = some_words(many)
    ties = [(words[k], words[k], words[k + 1], (-1) ** k * 10**k) for k in range(many - 1)]
    return (tuple(words), tuple(ties))


def all_sets(words):
    """All choices of the words, each in their order, the lesser sizes first."""
    return [choice for size in range(len(words) + 1) for choice in itertools.combinations(words, size)]


def put(thing, path, part):
    """The thing with the part in the place to which the path leads."""
    if not path:
        return part
    parts = list(thing)
    parts[path[0]] = put(parts[path[0]], path[1:], part)
    return tuple(parts)


def paths(thing):
    """The paths to all tuples and texts within nested tuples, the whole ahead."""
    told = [()]
    if isinstance(thing, tuple):
        told += [(k,) + path for k, part in enumerate(thing) for path in paths(part)]
    return told


def at(thing, path):
    """What lies in the thing where the path leads."""
    for step in path:
        thing = thing[step]
    return thing
