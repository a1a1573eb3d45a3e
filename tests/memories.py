"""What the tests of values and operations use."""

import unittest

from likerun.errors import Fault
from likerun.memory import Store

NONE = ("none",)
TRUE = ("truth", True)
FALSE = ("truth", False)
BIG = 10 ** 60 - 1


class Raw:
    """A value of the language within a value of Python."""

    def __init__(self, value):
        self.value = value


def number(n):
    return ("number", n)


def text(s):
    return ("text", s)


class MemoryCase(unittest.TestCase):
    """Tests with a memory of their own."""

    def setUp(self):
        self.memory = Store()

    def put(self, thing):
        """Return the value of the language for a value of Python."""
        if isinstance(thing, Raw):
            return thing.value
        if thing is None:
            return NONE
        for kind, word in ((bool, "truth"), (int, "number"), (str, "text")):
            if isinstance(thing, kind):
                return (word, thing)
        if isinstance(thing, dict):
            slots = [self.put(part) for pair in thing.items() for part in pair]
            return self.memory.make("dict", None, slots)
        word = "list" if isinstance(thing, list) else "tuple"
        return self.memory.make(word, None, [self.put(part) for part in thing])

    def got(self, value):
        """Return the value of Python for a value of the language; other references and plain values stay."""
        if value[0] in ("truth", "number", "text"):
            return value[1]
        if value == NONE:
            return None
        if value[0] != "ref":
            return value
        kind = self.memory.kind_of(value)
        if kind not in ("list", "tuple", "dict"):
            return value
        self.same(self.memory.tag_of(value), None)
        slots = [self.got(slot) for slot in self.memory.slots_of(value)]
        if kind == "dict":
            return dict(zip(slots[::2], slots[1::2]))
        return slots if kind == "list" else tuple(slots)

    def same(self, found, wanted):
        self.assertEqual(found, wanted)
        self.assertEqual(repr(found), repr(wanted))

    def function(self, name="f", number=1, slots=()):
        return self.memory.make("function", (number, name), list(slots))

    def cls(self, name="A", base=NONE, **fields):
        slots = [base] + [self.put(value) for value in fields.values()]
        return self.memory.make("class", (name, tuple(fields)), slots)

    def instance(self, cls, **fields):
        return self.memory.make("instance", (tuple(fields), ()), [cls] + [self.put(value) for value in fields.values()])

    def generator(self, state="new", name="g", slots=(), names=(), line=1):
        return self.memory.make("generator", (state, name, line, names, ()), list(slots))

    def objects(self):
        """Return one value of each kind."""
        cls = self.cls()
        return {
            "none": NONE, "truth": TRUE, "number": number(1), "text": text("a"), "list": self.put([1]),
            "tuple": self.put((1,)), "dict": self.put({"a": 1}), "function": self.function(),
            "method": self.memory.make("method", "append", [self.put([])]), "class": cls, "instance": self.instance(cls),
            "iterator": self.memory.make("iterator", (0, 1), [self.put([1])]), "generator": self.generator(),
            "builtin": ("builtin", "len"), "errorclass": ("errorclass", "Error"),
            "cell": self.memory.make("cell", None, [NONE]),
        }

    def others(self, *kinds):
        """Return a value of each kind but these."""
        return [value for kind, value in self.objects().items() if kind not in kinds]

    def snapshot(self):
        values = [("ref", address) for address in range(len(self.memory))]
        return [(self.memory.kind_of(value), self.memory.tag_of(value), self.memory.slots_of(value)) for value in values]

    def fails(self, name, operation, *given, value=NONE):
        """The operation fails with this error, and nothing is changed by it."""
        before = self.snapshot()
        with self.assertRaises(Fault) as caught:
            operation(self.memory, *given)
        self.same((caught.exception.name, caught.exception.value), (name, value))
        self.same(self.snapshot(), before)
