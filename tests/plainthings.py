"""Things of all sorts, point 4, for the tests: drawings, papers, and small changes of them."""

import plain
from plaintrees import WORDS, loose_tree

KINDS = ("levels", "forest", "joins", "arcs", "spans", "unit", "rows")
FAR = 10 ** 6000


def nested(deep, make, inner=()):
    """A thing with so many tuples or lists, or both, one in another."""
    thing = inner
    for at in range(deep):
        thing = make(at, thing)
    return thing


def odd_things():
    """Things that are no drawings and no papers, or seldom."""
    atoms = [None, True, False, 0, 1, -1, 2, 40, 41, FAR, -FAR, "", "one", "beside", "above", "levels", "None", "0"]
    some = atoms + [(), [], ((),), [[]], ([],), [()], ((), ()), ((), (), ()), [(), ()], ((), [])]
    some += [("one", 0), ("one", 1), ("one", -1), ("one", True), ("one", None), ("one", "0"), ("one", FAR), ("one", (0,))]
    some += [["one", 0], ("one",), ("one", 0, 0), ("two", 0), ("beside",), ("beside", []), ("beside", None),
             ("beside", 0), ("above", ("one", 0)), ("above", "one"), ("beside", (("one", 0),), ()), ((), "beside"),
             (("beside",), ()), (["beside"], ()), ("beside", ("one",)), (None, ()), (True, ()), ("one ", 0), ("One", 0)]
    some += [(atom,) for atom in atoms] + [[atom] for atom in atoms] + [(0, atom) for atom in atoms]
    some += [((0, atom),) for atom in atoms] + [((atom, 0),) for atom in atoms] + [(atom, (0,)) for atom in atoms]
    some += [((atom,), (0,)) for atom in atoms] + [((0,), (atom,)) for atom in atoms]
    some += [nested(deep, lambda at, x: (x,)) for deep in (2, 50, 99)]
    some += [nested(deep, lambda at, x: [x]) for deep in (2, 50, 99)]
    some += [nested(98, lambda at, x: (x, [at])), nested(97, lambda at, x: (0, x)), nested(97, lambda at, x: ("one", x))]
    some += [nested(49, lambda at, x: (WORDS[at % 2], (x,)), inner) for inner in (0, None, [], (), ("one",), ("one", True))]
    return some


def paths(thing):
    """Where the things stand that a thing is made of: a list of indexes for each of them."""
    found = [[]]
    if isinstance(thing, (tuple, list)):
        for at, item in enumerate(thing):
            found += [[at] + path for path in paths(item)]
    return found


def put(thing, path, change):
    """The thing with one of the things in it changed."""
    if not path:
        return change(thing)
    items = list(thing)
    items[path[0]] = put(items[path[0]], path[1:], change)
    return type(thing)(items)


def changed_here(rng, thing):
    """Some thing that is much like a thing."""
    if isinstance(thing, (tuple, list)) and rng.random() < 0.8:
        items = list(thing)
        way = rng.randrange(7)
        if way == 0:
            return tuple(items) if isinstance(thing, list) else items
        if way == 1 and items:
            items.pop(rng.randrange(len(items)))
        elif way == 2 and items:
            items.insert(rng.randrange(len(items) + 1), rng.choice(items))
        elif way == 3 and len(items) > 1:
            a, b = rng.sample(range(len(items)), 2)
            items[a], items[b] = items[b], items[a]
        elif way == 4:
            items.reverse()
        elif way == 5:
            items.append(rng.choice((0, None, len(items), (), (0, 0), ("one", len(items)))))
        else:
            return (thing,)
        return type(thing)(items)
    if type(thing) is int and rng.random() < 0.8:
        return rng.choice((thing + 1, thing - 1, -thing, thing == 1, thing + FAR, "0", rng.randrange(8), (thing,)))
    return rng.choice((None, True, False, 0, 1, 2, -1, 3, "one", "above", "beside", (), [], (0, 1), ("one", 0)))


def changed(rng, thing):
    """A thing with one small change somewhere in it."""
    return put(thing, rng.choice(paths(thing)), lambda old: changed_here(rng, old))


def random_drawing(rng, kind, size):
    """Some thing of the form of the kind, or nearly so: parents and arcs may have a ring."""
    far = rng.choice((1, 2, size + 1, 3 * size + 1, FAR))
    number = lambda: rng.randrange(far) - rng.choice((0, 0, far // 2))
    every = range(size)
    if kind == "levels":
        return tuple(number() for _ in every)
    if kind == "forest":
        names = plain.shuffled_names(rng, size)
        wide = rng.choice((0, 0, 0, 1))
        found = [None] * size
        for at, e in enumerate(names):
            if at and rng.random() < 0.8:
                found[e] = names[rng.randrange(min(size, at + wide))]
        return tuple(found)
    if kind == "joins":
        return loose_tree(rng, plain.shuffled_names(rng, size), 0)
    if kind == "arcs":
        many = rng.choice((2, 5, size + 2))
        turn = rng.choice((0, 0, 1))
        ends = [sorted(rng.sample(range(many), 2)) for _ in every]
        return tuple((b, a) if turn and rng.random() < 0.1 else (a, b) for a, b in ends)
    if kind == "spans":
        return tuple(tuple(sorted((number(), number()))) for _ in every)
    if kind == "unit":
        return (rng.randrange(rng.choice((1, 2, 5, 50, FAR))), tuple(number() for _ in every))
    return (tuple(plain.shuffled_names(rng, size)), tuple(plain.shuffled_names(rng, size)))
