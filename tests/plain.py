"""A second plain reading, which leans on Python: its calls, its errors and its generators.

It shares the operations of part 5 with the package, but none of the ways in which a run goes on. At each step it
notes what can be seen of the run.
"""

from likerun.errors import Fault
from likerun.fields import (
    delete_field, fetch, find_field, get_iterator, is_class, is_error, is_error_class, is_within, load_field, own_field,
    put_field, store_field)
from likerun.memory import Store
from likerun.natives import bind, call_builtin, call_native
from likerun.operations import binary, compare, delete_item, load_item, load_slice, store_item, unary
from likerun.pictures import draw, measure
from likerun.showing import class_name, show, text_of
from likerun.values import BUILTINS, ERROR_CLASSES, is_kind, is_true, kind_word

NONE = ("none",)
UNSET = ("unset",)


class Ended(Exception):
    """The run has ended within a step."""


class Raised(Exception):
    """An error of the program."""

    def __init__(self, value):
        super().__init__()
        self.value = value


class Left(Exception):
    """A return, a break or a continue."""

    def __init__(self, word, value=None):
        super().__init__()
        self.word = word
        self.value = value


class Place:
    """A frame."""

    def __init__(self, number, unit, names):
        self.number = number
        self.unit = unit
        self.line = unit.line
        # The line of the statement or clause in whose expressions something stands.
        self.clause = unit.line
        self.names = names
        self.handled = []


class Plain:
    """A run to its end."""

    def __init__(self, program, inputs=(), room=10000, fuel=2000, depth=24):
        self.units = program.units
        self.memory = Store()
        self.inputs = list(inputs)
        self.room = room
        self.fuel = fuel
        self.depth = depth
        self.prints = []
        self.lines = []
        self.pictures = []
        self.traces = []
        self.end = None
        self.names = {}
        self.frames = []
        self.bodies = {}
        self.found = {}
        for number, unit in enumerate(self.units):
            # Equal trees on one line have units that run alike.
            self.found[unit.outer, unit.line, unit.name, unit.parameters, repr(unit.body)] = number
        self.run()

    def unit_of(self, frame, line, name, params, body):
        return self.found[frame.number, line, name, params, repr(body)]

    # Steps and errors.

    def step(self, frame, line):
        frame.line = line
        if len(self.lines) == self.fuel:
            self.end = ("steps",)
            raise Ended()
        self.lines.append((frame.unit.name, line))
        entries = [entry for _, _, names in self.groups() for _, entry in names]
        if measure(self.memory, entries) > self.room:
            self.end = ("room",)
        self.pictures.append(self.picture())
        self.traces.append(self.trace())
        if self.end:
            raise Ended()

    def groups(self):
        found = [("globals", None, sorted(self.names.items()))]
        for frame in self.frames:
            names = []
            for name, entry in frame.names.items():
                if entry != UNSET:
                    names.append((name, entry))
            found.append((frame.unit.name, frame.line, sorted(names)))
        return found

    def picture(self):
        groups = self.groups()
        shown, rows = draw(self.memory, [row for group in groups for row in group[2]])
        text = []
        shown = list(shown)
        for name, line, names in groups:
            text.append(name if line is None else "frame {} line {}".format(name, line))
            for _ in names:
                text.append("  {} = {}".format(*shown.pop(0)))
        return "\n".join(text + ["objects"] + ["  " + row for row in rows])

    def trace(self):
        return tuple((frame.unit.name, frame.line) for frame in self.frames)

    def fail(self, name, value=NONE):
        """Raise a new error."""
        raise Raised(self.new_error(name, value))

    def new_error(self, name, value):
        error = self.memory.make("instance", (("message",), ()), [("errorclass", name), value])
        self.mark(error)
        return error

    def mark(self, error, cause=None):
        names, _ = self.memory.tag_of(error)
        self.memory.change(error, (names, self.trace()), self.memory.slots_of(error))
        if cause is not None:
            put_field(self.memory, error, "cause", cause)
        elif own_field(self.memory, error, "cause") is None:
            handled = self.handled()
            if handled not in (None, error):
                put_field(self.memory, error, "cause", handled)

    def handled(self):
        for frame in reversed(self.frames):
            if frame.handled:
                return frame.handled[-1]
        return None

    def do(self, operation, *given):
        """Do an operation of part 5."""
        try:
            return operation(self.memory, *given)
        except Fault as fault:
            self.fail(fault.name, fault.value)

    def run(self):
        frame = self.new_frame(0, None, [])
        try:
            self.run_frame(frame)
            self.end = ("done",)
        except Ended:
            return
        except Raised as raised:
            chain = []
            error = raised.value
            seen = []
            while error is not None and is_error(self.memory, error) and error not in seen:
                seen.append(error)
                message = own_field(self.memory, error, "message")
                text = ""
                if message not in (None, NONE):
                    try:
                        text = show(self.memory, message)
                    except Fault:
                        text = "..."
                cls = self.memory.slot(error, 0)
                chain.append((class_name(self.memory, cls), text, self.memory.tag_of(error)[1]))
                error = own_field(self.memory, error, "cause")
            self.end = ("error", tuple(chain))
        self.frames = []

    # Frames and calls.

    def new_frame(self, number, function, values):
        unit = self.units[number]
        names = {name: UNSET for name in unit.slots}
        names.update(zip(unit.parameters, values))
        for name in unit.cells:
            names[name] = self.memory.make("cell", None, [names[name]])
        if function is not None:
            names.update(zip(unit.free, self.memory.slots_of(function)[unit.defaults:]))
        return Place(number, unit, names)

    def run_frame(self, frame):
        """Run a frame that yields nothing, and return its value."""
        self.frames.append(frame)
        for _ in self.body(frame):
            raise AssertionError("a yield in a function without one")
        return frame.result

    def body(self, frame):
        """Run the frame that has just been added, and take it off at its end."""
        frame.result = NONE
        self.step(frame, frame.line)
        body = frame.unit.body
        try:
            if frame.unit.name == "lambda":
                frame.result = self.value(frame, body)
            elif frame.unit.parameters == (".items",):
                frame.result = self.comp(frame, body)
            else:
                yield from self.block(frame, body)
        except Left as left:
            frame.result = left.value
        except Raised:
            self.frames.pop()
            raise
        self.frames.pop()

    def comp(self, frame, body):
        _, element, target, _, condition = body
        out = frame.names[".out"] = self.memory.make("list", None, [])
        iterator = self.do(get_iterator, frame.names[".items"])
        while True:
            self.step(frame, frame.unit.line)
            item = self.item(iterator)
            if item is None:
                return out
            self.bind(frame, target, item)
            if condition is None or is_true(self.memory, self.value(frame, condition)):
                self.do(call_native, "append", out, [self.value(frame, element)])

    def item(self, iterator):
        if is_kind(self.memory, iterator, "generator"):
            return self.resume(iterator, NONE, "fetch")[0]
        return self.do(fetch, iterator)

    def call(self, function, given, named):
        memory = self.memory
        kind = kind_word(memory, function)
        if kind == "function":
            number = memory.tag_of(function)[0]
            values = self.do(bind, self.units[number], function, given, named)
            if self.units[number].yields:
                return self.new_generator(self.new_frame(number, function, values))
            self.ask_depth()
            return self.run_frame(self.new_frame(number, function, values))
        if kind == "method":
            slots = memory.slots_of(function)
            if len(slots) == 2:
                return self.call(slots[1], slots[:1] + given, named)
            if named:
                self.fail("KindError")
            return self.call_native(slots[0], memory.tag_of(function), given)
        if kind == "class":
            return self.call_class(function, given, named)
        if kind != "builtin" or named:
            self.fail("KindError")
        return self.call_builtin(function[1], given)

    def ask_depth(self):
        if len(self.frames) >= self.depth:
            self.fail("DepthError")

    def call_native(self, value, name, given):
        if not is_kind(self.memory, value, "generator"):
            return self.do(call_native, name, value, given)
        if len(given) != (1 if name == "send" else 0):
            self.fail("KindError")
        item, result = self.resume(value, given[0] if given else NONE, name)
        if name == "close":
            return NONE
        if item is None:
            self.fail("StopError", result)
        return item

    def call_builtin(self, name, given):
        if name == "print":
            words = []
            for value in given:
                words.append(self.do(text_of, value))
            if len(" ".join(words)) > 500:
                self.fail("SizeError")
            self.prints.append(" ".join(words))
            return NONE
        if name == "take":
            if given:
                self.fail("KindError")
            if not self.inputs:
                self.fail("StopError")
            item = self.inputs.pop(0)
            return ("text" if isinstance(item, str) else "number", item)
        if name == "next" and len(given) in (1, 2) and is_kind(self.memory, given[0], "generator"):
            item, result = self.resume(given[0], NONE, "next")
            if item is not None:
                return item
            if len(given) == 2:
                return given[1]
            self.fail("StopError", result)
        return self.do(call_builtin, name, given)

    def call_class(self, cls, given, named):
        memory = self.memory
        error = is_error_class(memory, cls)
        names, slots = (("message",), [NONE]) if error else ((), [])
        value = memory.make("instance", (names, ()), [cls] + slots)
        init = find_field(memory, cls, "init")
        if init is None:
            if named or len(given) > error:
                self.fail("KindError")
            if given:
                memory.set_slot(value, 1, given[0])
        elif is_kind(memory, init, "function"):
            self.call(init, [value] + given, named)
        else:
            self.fail("KindError")
        return value

    # Generators.

    def new_generator(self, frame):
        unit = frame.unit
        names = unit.slots + unit.free
        value = self.memory.make("generator", ("new", unit.name, unit.line, names, ()), [frame.names[x] for x in names])
        self.bodies[value[1]] = [frame, self.body(frame)]
        return value

    def state(self, value, word, line=None, slots=()):
        _, name, old, names, rest = self.memory.tag_of(value)
        self.memory.change(value, (word, name, old if line is None else line, names, rest), slots)

    def resume(self, value, sent, how):
        """Return (item, None), or (None, result) if there is none."""
        state = self.memory.tag_of(value)[0]
        if state == "running":
            self.fail("FlowError")
        if state == "ended":
            return None, NONE
        if state == "new" and how == "close":
            self.state(value, "ended")
            return None, NONE
        if state == "new" and how == "send" and sent != NONE:
            self.fail("KindError")
        self.ask_depth()
        frame, body = self.bodies[value[1]]
        self.state(value, "running")
        self.frames.append(frame)
        try:
            if state == "new":
                item = next(body)
            elif how == "close":
                item = body.throw(Raised(self.new_error("CloseError", NONE)))
            else:
                item = body.send(sent)
        except StopIteration:
            self.state(value, "ended")
            return None, frame.result
        except Raised as raised:
            return self.out_of_generator(value, frame, raised.value, how)
        self.frames.pop()
        self.state(value, "waiting", frame.line, [frame.names[x] for x in frame.unit.slots + frame.unit.free])
        if how == "close":
            self.fail("FlowError")
        return item, None

    def out_of_generator(self, value, frame, error, how):
        self.state(value, "ended")
        cls = self.memory.slot(error, 0)
        if is_within(self.memory, cls, ("errorclass", "StopError")):
            trace = self.trace() + ((frame.unit.name, frame.line),)
            raise Raised(self.memory.make("instance", (("message", "cause"), trace),
                                          [("errorclass", "FlowError"), NONE, error]))
        if how == "close" and is_within(self.memory, cls, ("errorclass", "CloseError")):
            return None, NONE
        raise Raised(error)

    # Names.

    def cell_of(self, frame, name):
        entry = frame.names.get(name)
        return entry if name in frame.unit.cells + frame.unit.free else None

    def load(self, frame, name):
        cell = self.cell_of(frame, name)
        if cell is not None:
            value = self.memory.slot(cell, 0)
        elif name in frame.names:
            value = frame.names[name]
        else:
            value = self.names.get(name, UNSET)
            if value == UNSET and name in BUILTINS:
                return ("builtin", name)
            if value == UNSET and name in dict(ERROR_CLASSES):
                return ("errorclass", name)
        if value == UNSET:
            self.fail("NameError", ("text", name))
        return value

    def store(self, frame, name, value):
        cell = self.cell_of(frame, name)
        if cell is not None:
            self.memory.set_slot(cell, 0, value)
        elif name in frame.names:
            frame.names[name] = value
        else:
            self.names[name] = value

    def delete(self, frame, name):
        if name not in frame.names:
            if name not in self.names:
                self.fail("NameError", ("text", name))
            del self.names[name]
        else:
            self.load(frame, name)
            self.store(frame, name, UNSET)

    def bind(self, frame, target, value):
        kind = target[0]
        if kind == "name":
            self.store(frame, target[1], value)
        elif kind == "attribute":
            self.do(store_field, self.value(frame, target[1]), target[2], value)
        elif kind == "item":
            a = self.value(frame, target[1])
            self.do(store_item, a, self.value(frame, target[2]), value)
        else:
            if kind_word(self.memory, value) not in ("list", "tuple"):
                self.fail("KindError")
            items = self.memory.slots_of(value)
            if len(items) != len(target[1]):
                self.fail("ValueError")
            for part, item in zip(target[1], items):
                self.bind(frame, part, item)

    # Expressions.

    def value(self, frame, tree):
        return NONE if tree is None else getattr(self, "value_" + tree[0])(frame, *tree[1:])

    def values(self, frame, trees):
        return [self.value(frame, tree) for tree in trees]

    def value_none(self, frame):
        return NONE

    def value_truth(self, frame, truth):
        return ("truth", truth)

    def value_number(self, frame, n):
        return ("number", n)

    def value_text(self, frame, text):
        return ("text", text)

    def value_name(self, frame, name):
        return self.load(frame, name)

    def value_tuple(self, frame, items):
        return self.memory.make("tuple", None, self.values(frame, items))

    def value_list(self, frame, items):
        return self.memory.make("list", None, self.values(frame, items))

    def value_dict(self, frame, pairs):
        found = [self.values(frame, pair) for pair in pairs]
        value = self.memory.make("dict", None, [])
        for key, item in found:
            self.do(store_item, value, key, item)
        return value

    def value_comp(self, frame, element, target, iterable, condition):
        items = self.value(frame, iterable)
        body = ("comp", element, target, iterable, condition)
        number = self.unit_of(frame, frame.clause, "comp", (".items",), body)
        return self.call(self.function(frame, number, []), [items], [])

    def function(self, frame, number, defaults):
        unit = self.units[number]
        return self.memory.make("function", (number, unit.name), defaults + [frame.names[name] for name in unit.free])

    def value_unary(self, frame, op, a):
        return self.do(unary, op, self.value(frame, a))

    def value_binary(self, frame, op, a, b):
        a = self.value(frame, a)
        return self.do(binary, op, a, self.value(frame, b))

    def value_compare(self, frame, first, links):
        a = self.value(frame, first)
        for op, part in links:
            b = self.value(frame, part)
            found = self.do(compare, op, a, b)
            if found == ("truth", False):
                break
            a = b
        return found

    def value_and(self, frame, items):
        for item in items:
            value = self.value(frame, item)
            if not is_true(self.memory, value):
                break
        return value

    def value_or(self, frame, items):
        for item in items:
            value = self.value(frame, item)
            if is_true(self.memory, value):
                break
        return value

    def value_choose(self, frame, test, then, other):
        return self.value(frame, then if is_true(self.memory, self.value(frame, test)) else other)

    def value_lambda(self, frame, params, body):
        return self.define(frame, frame.clause, "lambda", params, body)

    def define(self, frame, line, name, params, body):
        defaults = self.values(frame, [default for _, default in params if default is not None])
        number = self.unit_of(frame, line, name, tuple(param for param, _ in params), body)
        return self.function(frame, number, defaults)

    def value_call(self, frame, function, given, named):
        function = self.value(frame, function)
        given = self.values(frame, given)
        named = [(name, self.value(frame, part)) for name, part in named]
        return self.call(function, given, named)

    def value_attribute(self, frame, a, name):
        return self.do(load_field, self.value(frame, a), name)

    def value_item(self, frame, a, index):
        a = self.value(frame, a)
        return self.do(load_item, a, self.value(frame, index))

    def value_slice(self, frame, *parts):
        return self.do(load_slice, *self.values(frame, parts))

    # Statements.

    def block(self, frame, statements):
        for statement in statements:
            frame.clause = statement[1]
            yield from getattr(self, "do_" + statement[0])(frame, *statement[1:])

    def begin(self, frame, line):
        frame.clause = line
        self.step(frame, line)

    def right(self, frame, tree):
        """Evaluate a right side, which may be a yield."""
        if tree[0] != "yield":
            return self.value(frame, tree)
        sent = yield self.value(frame, tree[1])
        return sent

    def do_expr(self, frame, line, a):
        self.begin(frame, line)
        yield from self.right(frame, a)

    def do_assign(self, frame, line, target, a):
        self.begin(frame, line)
        value = yield from self.right(frame, a)
        self.bind(frame, target, value)

    def do_augment(self, frame, line, target, op, a):
        self.begin(frame, line)
        if target[0] == "name":
            old = self.load(frame, target[1])
            self.store(frame, target[1], self.do(binary, op, old, self.value(frame, a)))
        elif target[0] == "attribute":
            held = self.value(frame, target[1])
            old = self.do(load_field, held, target[2])
            self.do(store_field, held, target[2], self.do(binary, op, old, self.value(frame, a)))
        else:
            held, index = self.values(frame, target[1:])
            old = self.do(load_item, held, index)
            self.do(store_item, held, index, self.do(binary, op, old, self.value(frame, a)))
        return
        yield

    def do_delete(self, frame, line, target):
        self.begin(frame, line)
        if target[0] == "name":
            self.delete(frame, target[1])
        elif target[0] == "attribute":
            self.do(delete_field, self.value(frame, target[1]), target[2])
        else:
            self.do(delete_item, *self.values(frame, target[1:]))
        return
        yield

    def do_pass(self, frame, line):
        self.begin(frame, line)
        return
        yield

    def do_break(self, frame, line):
        self.begin(frame, line)
        raise Left("break")
        yield

    def do_continue(self, frame, line):
        self.begin(frame, line)
        raise Left("continue")
        yield

    def do_return(self, frame, line, a):
        self.begin(frame, line)
        raise Left("return", self.value(frame, a))
        yield

    def do_raise(self, frame, line, a, cause):
        self.begin(frame, line)
        if a is None:
            error = self.handled()
            if error is None:
                self.fail("FlowError")
            raise Raised(error)
        error = self.value(frame, a)
        if cause is not None:
            cause = self.value(frame, cause)
        if not is_error(self.memory, error) or cause not in (None, NONE) and not is_error(self.memory, cause):
            self.fail("KindError")
        self.mark(error, cause)
        raise Raised(error)
        yield

    def do_global(self, frame, line, names):
        return
        yield

    do_nonlocal = do_global

    def do_if(self, frame, line, test, body, other):
        self.begin(frame, line)
        yield from self.block(frame, body if is_true(self.memory, self.value(frame, test)) else other)

    def do_while(self, frame, line, test, body, other):
        while True:
            self.begin(frame, line)
            if not is_true(self.memory, self.value(frame, test)):
                yield from self.block(frame, other)
                return
            try:
                yield from self.block(frame, body)
            except Left as left:
                if left.word == "return":
                    raise
                if left.word == "break":
                    return

    def do_for(self, frame, line, target, iterable, body, other):
        self.begin(frame, line)
        iterator = self.do(get_iterator, self.value(frame, iterable))
        while True:
            self.begin(frame, line)
            item = self.item(iterator)
            if item is None:
                yield from self.block(frame, other)
                return
            self.bind(frame, target, item)
            try:
                yield from self.block(frame, body)
            except Left as left:
                if left.word == "return":
                    raise
                if left.word == "break":
                    return

    def do_def(self, frame, line, name, params, body):
        self.begin(frame, line)
        self.store(frame, name, self.define(frame, line, name, params, body))
        return
        yield

    def do_class(self, frame, line, name, base, items):
        self.begin(frame, line)
        slots = [self.value(frame, base)]
        names = []
        for item in items:
            frame.clause = item[1]
            if item[0] == "assign":
                names.append(item[2][1])
                slots.append(self.value(frame, item[3]))
            elif item[0] == "def":
                names.append(item[2])
                slots.append(self.define(frame, *item[1:]))
        if slots[0] != NONE and not is_class(self.memory, slots[0]):
            self.fail("KindError")
        self.store(frame, name, self.memory.make("class", (name, tuple(names)), slots))
        return
        yield

    def do_try(self, frame, line, body, clauses, other, final):
        signal = None
        try:
            yield from self.guarded(frame, body, clauses, other)
        except (Raised, Left) as caught:
            signal = caught
        many = len(frame.handled)
        if isinstance(signal, Raised):
            frame.handled.append(signal.value)
        try:
            yield from self.block(frame, final)
        finally:
            del frame.handled[many:]
        if signal is not None:
            raise signal

    def guarded(self, frame, body, clauses, other):
        try:
            yield from self.block(frame, body)
        except Raised as raised:
            error = raised.value
        else:
            yield from self.block(frame, other)
            return
        many = len(frame.handled)
        frame.handled.append(error)
        try:
            for line, a, name, block in clauses:
                self.begin(frame, line)
                if a is None or self.takes(self.value(frame, a), error):
                    if name is not None:
                        self.store(frame, name, error)
                    yield from self.block(frame, block)
                    return
        finally:
            del frame.handled[many:]
        raise Raised(error)

    def takes(self, value, error):
        classes = self.memory.slots_of(value) if is_kind(self.memory, value, "tuple") else [value]
        if not all(is_error_class(self.memory, cls) for cls in classes):
            self.fail("KindError")
        return any(is_within(self.memory, self.memory.slot(error, 0), cls) for cls in classes)

    def do_with(self, frame, line, a, name, body):
        self.begin(frame, line)
        m = self.value(frame, a)
        enter = self.method(m, "enter")
        self.method(m, "leave")
        result = self.call(enter, [m], [])
        if name is not None:
            self.store(frame, name, result)
        signal = None
        try:
            yield from self.block(frame, body)
        except (Raised, Left) as caught:
            signal = caught
        error = signal.value if isinstance(signal, Raised) else NONE
        many = len(frame.handled)
        if isinstance(signal, Raised):
            frame.handled.append(error)
        try:
            self.begin(frame, line)
            result = self.call(self.method(m, "leave"), [m, error], [])
        finally:
            del frame.handled[many:]
        if signal is not None and not (isinstance(signal, Raised) and is_true(self.memory, result)):
            raise signal

    def method(self, m, name):
        if not is_kind(self.memory, m, "instance"):
            self.fail("KindError")
        found = find_field(self.memory, self.memory.slot(m, 0), name)
        if found is None or not is_kind(self.memory, found, "function"):
            self.fail("KindError")
        return found
