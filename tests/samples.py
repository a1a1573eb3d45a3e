"""Programs of all statements and expressions, in many nestings."""

MANAGER = """class M:
    def init(self, drop=False):
        self.drop = drop
        self.seen = []
    def enter(self):
        self.seen.append("in")
        return self.seen
    def leave(self, error):
        self.seen.append(error)
        print("out", error, len(self.seen))
        return self.drop
"""

PARTS = r'''
x = 1 + 2 * 3 - 7 // 2
y = -x
z = not x
print(x, y, z, 7 mod -3, "a" * 3, [1] + [2], (1,) * 2)
----
x = 3
print(1 < x < 5, 5 > x > 3 > 9, 1 < 2 < 0 < len(5), x in [1, 3], x not in (3,), x is 3, x is not None)
----
def f(n):
    print(n)
    return n
print(f(1) < f(2) < f(3), f(3) < f(2) < f(1), f(1) == f(1) != f(2) == f(9))
----
def f(n):
    print(n)
    return n
print(f(0) or f("") or f(2) or f(3), f(1) and f([]) and f(4), not f(0) and f(5))
----
print(1 if 0 else 2 if [] else 3, (4 if 1 else 1 // 0), [k for k in range(3)] if True else 5)
----
d = {1: "a", (1, 2): [3], None: {}}
print(d, d[(1, 2)][0], {}, (), [], (1,))
d[1] += "b"
print(d)
{[1]: 2}
----
x = [1, 2, 3, 4, 5]
print(x[1:3], x[::-1], x[-2:], x[:2], x[1::2], x[:], "abc"[1], (1, 2)[-1])
x[9]
----
xs = [[1, 2], [3, 4]]
print([a + b for a, b in xs if a > 1], [x for x in [y for y in range(4)] if x mod 2], [x for x, in [[5]]])
----
print([[(a, b) for b in range(a)] for a in range(4)], [lambda: k for k in range(3)][1](), [k for k in "ab"])
----
f = lambda a, b=2, c=[]: (a, b, c)
print(f(1), f(1, c=3), f(b=1, a=0), (lambda: 5)(), (lambda x: lambda y: x + y)(1)(2))
f()
----
def f(a, b=1, c=2):
    return (a, b, c)
print(f(1), f(1, 2), f(1, c=5), f(c=1, a=2))
print(f(1)) if 0 else f(1, a=2)
----
x = print
x("a", [1], None)
print()
print(take(), take())
take()
----
print(len, KeyError, lambda: 1, [].append, iter([1]))
len = 5
print(len)
del len
print(len)
del len
----
a, b = 1, 2
a, b = b, a
[1, 2][0] = 5
x = [0, 0]
x[0], x[1], c = 7, 8, 9
print(a, b, c, x)
a, b = [1]
----
class A:
    n = 1
a = A()
a.x, a.y = "xy", 3
----
class A:
    n = 1
a = A()
a.x = [1]
a.x[0] += 4
a.n += 1
a.n *= 3
a.n -= 1
a.n //= 2
print(a.x, a.n, A.n)
del a.x
a.x
----
x = {1: [2]}
x[1][0] = 3
x[1] += [4]
print(x)
del x[1][0]
print(x)
del x[1]
print(x)
x[1] += 1
----
def f():
    x = 1
    del x
    try:
        print(x)
    except NameError as e:
        print(e)
    x = 2
    return x
print(f())
del f
f()
----
x = 1
x -= 2
x *= -3
x //= 2
print(x)
x += "a"
----
for n in range(5):
    if n == 0:
        print("a")
    elif n == 1:
        pass
    elif n == 2:
        print("c")
    else:
        print(n)
----
n = 5
while n:
    n -= 1
    if n == 3:
        continue
    if n == 1:
        break
    print(n)
else:
    print("no")
print(n)
----
n = 0
while n < 2:
    n += 1
else:
    print("else", n)
for x in []:
    pass
else:
    print("empty")
----
for a in [1, 2]:
    for b in "xy":
        if b == "y":
            break
        print(a, b)
    else:
        print("never")
else:
    print("end")
----
for a, b in {1: 2}.items():
    print(a, b)
for k in {1: 2, 3: 4}:
    print(k)
x = [1]
for y in x:
    if len(x) < 4:
        x.append(y + 1)
print(x)
for z in 5:
    pass
----
d = {1: 1}
for k in d:
    d[k + 1] = 1
----
while True:
    x = 1
----
def f():
    for x in range(3):
        while True:
            if x == 1:
                return [x for x in range(x)]
            break
        else:
            print("no")
print(f())
----
def f(n):
    def g():
        nonlocal n
        n += 1
        return lambda: n
    return g
g = f(1)
print(g()(), g()(), f(5)()())
----
x = 1
def f():
    global x, y
    x += 1
    y = 5
    return x
print(f(), f(), x, y)
def g():
    x += 1
g()
----
def f():
    def g():
        return a
    try:
        g()
    except NameError as e:
        print(e)
    a = 3
    return g()
print(f())
----
def fib(n):
    return n if n < 2 else fib(n - 1) + fib(n - 2)
print(fib(8))
def deep(n):
    return deep(n + 1)
deep(0)
----
def f(a=[]):
    a.append(len(a))
    return a
print(f(), f(), f([5]))
----
def f():
    def f():
        return f
    return f
print(f()()() is not f, f)
----
class A:
    x = 1
    def init(self, n=2):
        self.n = n
    def add(self, m):
        return self.n + m
class B(A):
    x = 5
    pass
    def add(self, m):
        return A.add(self, m) * 2
print(B().add(1), B(n=4).add(0), B.x, A.x, A().x, isinstance(B(), A), isinstance(A(), (B, Error)))
A(1, 2)
----
x = 5
class A(x):
    y = print(1)
    pass
----
x = None
class A(x):
    pass
class B(A):
    f = lambda self: 3
    g = len
print(B().f(), B().g([1]), B)
B().h
----
class A:
    init = 5
A()
----
class A:
    def init(self):
        return 5
    def init2(self):
        yield 1
print(A(), [x for x in A().init2()])
class B:
    def init(self):
        yield 1
print(B())
----
class E(Error):
    def init(self, a, b):
        self.message = a + b
try:
    raise E(1, 2)
except E as e:
    print(e, e.message)
    raise e from KeyError(5)
----
try:
    try:
        1 // 0
    except ZeroError as e:
        [].x
except FieldError as e:
    print(e, e.cause)
    raise
----
try:
    1 // 0
except KeyError:
    print(1)
except (NameError, ZeroError) as e:
    print(2, e)
except:
    print(3)
else:
    print(4)
finally:
    print(5)
----
try:
    pass
except:
    print(1)
else:
    print(2)
    1 // 0
finally:
    print(3)
----
try:
    x
except 5:
    pass
----
try:
    x
except (Error, 5) as e:
    pass
finally:
    print(1)
----
try:
    x
except KeyError:
    pass
finally:
    print("out")
----
try:
    raise
except FlowError as e:
    print(e)
    try:
        raise
    except FlowError as f:
        print(e is f)
raise
----
raise 5
----
raise Error(1) from 5
----
raise Error from None
----
try:
    raise Error([1, 2]) from KeyError(3)
finally:
    y = 1
----
e = Error(1)
try:
    raise e
except Error:
    raise e
----
def f(n):
    try:
        if n == 0:
            return 1
        if n == 1:
            1 // 0
        print("body")
    except ZeroError:
        return 2
    else:
        return 3
    finally:
        print("last", n)
        if n == 3:
            return 4
print(f(0), f(1), f(2), f(3))
----
def f():
    try:
        return 1
    finally:
        try:
            1 // 0
        except Error:
            print("in")
    return 2
print(f())
----
def f():
    try:
        1 // 0
    finally:
        return 5
print(f())
----
def f():
    for x in range(5):
        try:
            try:
                if x == 1:
                    continue
                if x == 3:
                    break
                print(x)
            finally:
                print("a", x)
        finally:
            print("b", x)
            if x == 2:
                continue
    else:
        print("no")
    return x
print(f())
----
for x in range(4):
    try:
        1 // 0
    except Error as e:
        if x == 1:
            continue
        if x == 2:
            break
        print(x)
    finally:
        print("f")
print(x)
----
while True:
    try:
        1 // 0
    finally:
        break
print(1)
for x in [1]:
    try:
        raise Error(1)
    finally:
        continue
print(x)
----
def f():
    while True:
        try:
            for x in range(3):
                try:
                    return x
                finally:
                    break
        finally:
            for y in range(2):
                if y:
                    return y + 10
print(f())
----
try:
    try:
        a
    finally:
        b
except NameError as e:
    print(e, e.cause)
----
def f():
    try:
        a
    except Error:
        for x in [1, 2]:
            try:
                b
            except Error as e:
                print(e.cause)
                return e
            finally:
                try:
                    raise
                except Error as g:
                    print(g)
print(f())
----
try:
    raise Error
except Error:
    pass
----
MANAGER
with M() as m:
    print(m)
with M(True) as m:
    1 // 0
print(m)
with M():
    1 // 0
----
MANAGER
def f():
    for x in range(4):
        with M() as m:
            if x == 0:
                continue
            if x == 2:
                break
            print(x)
    with M():
        with M(True):
            return x
print(f())
----
MANAGER
def f():
    with M(True):
        try:
            return 1 // 0
        finally:
            print("last")
    return 7
print(f())
with 5:
    pass
----
MANAGER
class N(M):
    def leave(self, error):
        return [][1]
try:
    with N():
        1 // 0
except RangeError as e:
    print(e, e.cause)
with N():
    pass
----
MANAGER
class N(M):
    def enter(self):
        self.leave = 5
        M.leave = 5
with N():
    1 // 0
----
MANAGER
try:
    with M():
        x
except NameError as e:
    with M(True):
        raise
print(e)
----
class M:
    def enter(self):
        yield 1
    def leave(self, error):
        yield error
with M() as m:
    x
print(m)
----
def g(n):
    for x in range(n):
        got = yield x
        if got:
            print(got)
    return "end"
for y in g(3):
    print(y)
i = g(2)
print(next(i), i.send(5), next(i, "d"), next(i, "e"))
next(i)
----
def g():
    yield 1
    return 7
i = g()
print(next(i), i)
try:
    next(i)
except StopError as e:
    print(e)
i.send(1)
----
def g():
    try:
        yield 1
    finally:
        print("closed")
i = g()
i.close()
i = g()
next(i)
print(i.close(), i.close())
next(i)
----
def g():
    try:
        yield 1
    except CloseError:
        yield 2
i = g()
next(i)
i.close()
----
def g():
    while True:
        try:
            yield 1
        except CloseError:
            return 5
i = g()
next(i)
print(i.close())
----
def g():
    yield 1
    raise StopError(3)
for x in g():
    print(x)
----
def g():
    yield next(i)
i = g()
next(i)
----
def g():
    i.close()
    yield 1
i = g()
for x in i:
    pass
----
def g():
    x = yield
    print(x)
    yield x
i = g()
i.send(1)
----
def g(n):
    if n:
        for x in g(n - 1):
            yield x
    yield n
print([x for x in g(4)], list([y for y in g(2) if y]))
----
def g(n):
    if n:
        for x in g(n - 1):
            yield x
    yield n
for x in g(30):
    print(x)
----
def g():
    n = 1
    def f():
        nonlocal n
        n += 1
        return n
    while n < 5:
        yield f
for f in g():
    print(f())
i = g()
f = next(i)
print(f(), i)
----
MANAGER
def g():
    with M(True):
        yield 1
        with M():
            yield 2
            1 // 0
    yield 3
for x in g():
    print(x)
i = g()
next(i)
next(i)
i.close()
print(i)
----
def g():
    for x in [1, 2, 3]:
        try:
            yield x
        finally:
            print("f", x)
            if x == 2:
                continue
i = g()
for x in i:
    if x == 2:
        i.close()
----
def g(a, b=2):
    del a
    yield b
    yield a
i = g(1)
print(i)
next(i)
next(i)
----
class S(StopError):
    pass
class C(CloseError):
    pass
def g(e):
    try:
        yield 1
    except CloseError:
        raise e
for e in [C(1), S(2), KeyError(3)]:
    i = g(e)
    next(i)
    try:
        print(i.close())
    except Error as f:
        print(f, f.cause)
----
def g():
    try:
        yield 1
    finally:
        yield 2
i = g()
print(next(i), next(i), next(i, 3))
def h():
    return [(yield_) for yield_ in g()]
print(h())
----
x = []
x.append(x)
d = {1: x}
d[2] = d
print(x, d, x == x)
y = []
y.append(y)
x == y
----
x = 0
while True:
    x = [x]
----
x = []
while True:
    x.append([])
----
x = 9
while True:
    x = x * x * x
----
def f(n):
    x = [n] * 50
    f(n + 1)
    return x
f(0)
----
global_ = 1
def f():
    class A(Error):
        x = lambda self: y
    y = 3
    return A
print(f()().x(), f())
raise f()(2)
'''
SAMPLES = [part.strip("\n").replace("MANAGER\n", MANAGER) for part in PARTS.split("\n----\n")]
