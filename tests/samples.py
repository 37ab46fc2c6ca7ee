"""Worlds and strange things that several tests need."""

import itertools
import random

from headamid.kinds import kept_fault
from headamid.ladders import fewest_hues
from headamid.layings import Laying
from headamid.setups import Setup
from headamid.worlds import World

# Things that equal or resemble the numbers 0 and 1, and things of other kinds.
STRANGE = (None, True, False, 1.0, 0.0, -1, 99, "0", "", b"0", (), [], (0,), [0], {}, {0: 0}, {0}, range(2), object())


class Same:
    """A thing that says that it equals everything."""

    def __eq__(self, other):
        return True

    def __hash__(self):
        return 0


SAME = Same()

NO_SEQUENCES = (None, True, 0, 1.5, "", "01", b"", {}, {0: 1}, set(), {0, 1}, range(2), iter(()), World, SAME)


def plain_world(bases, owns):
    """The world of these bases and numbers of own fields, without methods."""
    return World([(row, own, ()) for row, own in zip(bases, owns)])


ONE = plain_world([()], [0])
ROOTS = plain_world([(), (), ()], [1, 2, 0])
CHAIN = plain_world([(), (0,), (1,)], [1, 1, 2])
DIAMOND = plain_world([(), (0,), (0,), (1, 2)], [1, 1, 2, 1])
EXAMPLE = plain_world([(), (0,), (0,), (0,), (1, 2), (2, 3)], [1, 1, 1, 1, 0, 0])
THREE = plain_world([(), (0,), (0,), (0,), (1, 2), (2, 3), (1, 3)], [1, 1, 1, 1, 0, 0, 0])
# Classes 2 and 3 make the fields (0, 0) and (1, 0) unlike, classes 4 and 5 make them alike.
BOTH_SENSES = plain_world([(), (), (0,), (1,), (0, 1), (), (2, 3), (4, 5)], [1, 1, 0, 0, 0, 1, 0, 0])
# The fields of 2 lie within those of 1 though neither is an elder of the other.
WITHIN = plain_world([(), (0,), (0,), (1, 2)], [1, 1, 0, 0])
TWELVE = plain_world([()] + [(c,) for c in range(11)], [1] * 12)
WIDE = plain_world([()] * 6 + [(0, 1), (1, 2), (3,), (3, 4), (8, 9), (10,)], [3] * 12)

NAMED = (ONE, ROOTS, CHAIN, DIAMOND, EXAMPLE, THREE, BOTH_SENSES, WITHIN, TWELVE, WIDE)


def random_world(rng, classes, most_fields, methods=False):
    """A world of some classes whose bases, fields and methods are drawn."""
    entries = []
    for c in range(classes):
        bases = rng.sample(range(c), rng.randint(0, min(c, 3)))
        own = rng.randint(0, most_fields)
        names = rng.sample(range(6), rng.randint(0, 3)) if methods else []
        entries.append((bases, own, names))
    return World(entries)


def random_worlds(seed, many, most_classes, most_fields, methods=False):
    """A list of worlds that is the same at each call."""
    rng = random.Random(seed)
    return [random_world(rng, rng.randint(1, most_classes), most_fields, methods) for _ in range(many)]


def small_worlds(seed, many, most_in_all):
    """Worlds of up to seven classes with few fields in all, for trying out all layings."""
    rng = random.Random(seed)
    found = []
    while len(found) < many:
        world = random_world(rng, rng.randint(1, 7), 2)
        if len(world.all_fields) <= most_in_all:
            found.append(world)
    return found


def told(thing):
    """The attributes of a result or an error, None for None."""
    return None if thing is None else vars(thing)


def tie_row(tie):
    """The six attributes of a tie, in order."""
    return (tie.first, tie.second, tie.sense, tie.a, tie.b, tie.heir)


def is_close(world, places):
    """Whether places, one for each field, make a close laying: judged by counting cells."""
    place = dict(zip(world.all_fields, places))
    for c in range(len(world)):
        cells = [0] + [place[f] for f in place if f[0] == c or f[0] in world.elders[c]]
        if len(set(cells)) < len(cells) or max(cells) - min(cells) >= len(cells):
            return False
    return True


def brute_layings(world):
    """The places of all close layings, ascending, found by trying out all places."""
    many = len(world.all_fields)
    reach = [place for place in range(-many, many + 1) if place != 0]
    return [row for row in itertools.product(reach, repeat=many) if is_close(world, row)]


def kept_world(rng, kinds, classes, most_fields, methods=False):
    """A world of up to so many classes that keeps the kinds, and its kinds, drawn class by class."""
    entries, given = [], []
    for _ in range(classes * 4):
        c = len(entries)
        kind = rng.randrange(kinds.many)
        bases = rng.sample(range(c), rng.randint(0, min(c, 3)))
        own = 0 if kind in kinds.bare else rng.randint(0, most_fields)
        names = rng.sample(range(6), rng.randint(0, 3)) if methods else []
        longer = entries + [(bases, own, names)]
        if c < classes and kept_fault(World(longer), kinds, given + [kind]) is None:
            entries, given = longer, given + [kind]
    return (World(entries), tuple(given)) if entries else kept_world(rng, kinds, classes, most_fields, methods)


def caught(error, call, *things, **named):
    """The attributes of the error that a call raises, None if it raises none; other errors pass."""
    try:
        call(*things, **named)
    except error as found:
        assert type(found) is error
        return told(found)
    return None


def brute_holes(world, places):
    """The number of holes of each class, counted cell by cell; None if some class has two fields in one cell."""
    place = dict(zip(world.all_fields, places))
    holes = []
    for c in range(len(world)):
        cells = [0] + [place[f] for f in place if f[0] == c or f[0] in world.elders[c]]
        if len(set(cells)) < len(cells):
            return None
        holes.append(len(set(range(min(cells), max(cells) + 1)) - set(cells)))
    return holes


def is_gapless(places):
    """Whether these places and 0 are a stretch."""
    cells = {0, *places}
    return max(cells) - min(cells) + 1 == len(cells)


def apart_layings(world, beyond=0):
    """The places and holes of all layings that are apart and have no place farther than the number of fields; the
    gapless ones alone if there are five fields or more."""
    many = len(world.all_fields)
    reach = [place for place in range(-many - beyond, many + beyond + 1) if place != 0]
    found = []
    for places in itertools.product(reach, repeat=many):
        if many < 5 or is_gapless(places):
            holes = brute_holes(world, places)
            if holes is not None:
                found.append((places, holes))
    return found


def ringed_worlds(seed, many, most_classes, most_in_all):
    """Worlds many of which have no close laying: some classes with fields, and heirs of couples of them."""
    rng = random.Random(seed)
    found = []
    while len(found) < many:
        above = rng.choice((0, 0, 0, 1))
        roots = rng.choice((3, 3, 4)) + above
        pairs = list(itertools.combinations(range(above, roots), 2))
        rng.shuffle(pairs)
        entries = [([0] if above and c else [], rng.choice((1, 1, 1, 1, 0, 2)), ()) for c in range(roots)]
        for pair in pairs[:rng.randint(1, max(1, most_classes - roots))]:
            entries.append((list(pair)[::rng.choice((1, -1))], rng.choice((0, 0, 0, 0, 1)), ()))
        world = World(entries)
        if len(entries) <= most_classes and len(world.all_fields) <= most_in_all:
            found.append(world)
    return found


def name_worlds(seed, many, most_classes=7, most_fields=1):
    """Worlds whose classes often define the same few names."""
    rng = random.Random(seed)
    names = ((), (), (0,), (1,), (1, 0), (0, 5), (2, 1, 0))
    found = []
    for _ in range(many):
        entries = []
        for c in range(rng.randint(1, most_classes)):
            bases = rng.sample(range(c), rng.randint(0, min(c, 3)))
            entries.append((bases, rng.randint(0, most_fields), rng.choice(names)))
        found.append(World(entries))
    return found


def due_answers(world, c, lot):
    """The answers of a class for a name that the classes of a lot define, judged by the heirs."""
    row = {k for k in (c, *world.elders[c]) if k in lot}
    return tuple(k for k in sorted(row) if not set(world.heirs[k]) & row)


def definers_in(world, name):
    """The classes that define a name."""
    return tuple(c for c, methods in enumerate(world.methods) if name in methods)


def all_parts(row):
    """All parts of a row, as tuples, the shorter ones first."""
    return [part for size in range(len(row) + 1) for part in itertools.combinations(row, size)]


def random_places(rng, many, farthest):
    """Some places that are often met again."""
    return tuple(rng.choice([place for place in range(-farthest, farthest + 1) if place]) for _ in range(many))


def upward(world, c):
    """A class and its elders."""
    return sorted((c, *world.elders[c]))


WORDS = ("make", "view", "take", "take", "test", "put", "put", "get", "call", "call", "call")


def drawn_steps(rng, world, many, begin=(), words=WORDS):
    """The steps of a right program, tuples and lists, that begin with these, and the views of its names."""
    steps, views = list(begin), [step[2] for step in begin if step[0] in ("make", "view", "take")]
    while len(steps) < many:
        step = drawn_step(rng, world, views, words)
        if step is not None:
            steps.append(rng.choice((tuple, list))(step))
            if step[0] in ("make", "view", "take"):
                views.append(step[2])
    return steps, tuple(views)


def drawn_step(rng, world, views, words):
    """A right step behind steps that brought in names with these views; None if the drawn form has none."""
    word = rng.choice(words)
    if word == "make" or not views:
        c = rng.randrange(len(world))
        return "make", c, rng.choice(upward(world, c))
    name = rng.randrange(len(views))
    among = upward(world, views[name])
    if word == "view":
        return word, name, rng.choice(among)
    if word in ("take", "test"):
        return word, name, rng.randrange(len(world))
    rows = [m for k in among for m in world.methods[k]] if word == "call" else [
        (k, i) for k in among for i in range(world.owns[k])]
    if not rows:
        return None
    thing = rng.choice(rows)
    if word == "call":
        return word, name, thing
    field = rng.choice((tuple, list))(thing)
    return (word, name, field, rng.randint(-9, 9)) if word == "put" else (word, name, field)


def as_tuples(thing):
    """The thing with tuples in the place of all lists."""
    return tuple(as_tuples(item) for item in thing) if isinstance(thing, (list, tuple)) else thing


def entries_in(world, c=None):
    """The entries of a world, or those of a class and its elders, judged by the methods of the elders."""
    rows = range(len(world)) if c is None else upward(world, c)
    return tuple((k, name) for k in rows for name in world.methods[k]
                 if not any(name in world.methods[elder] for elder in world.elders[k]))


def good_rows(rng, world):
    """Good places for the fields, good table places and good hues of a world, as far as they are found."""
    many, entries = len(world.all_fields), entries_in(world)
    names = sorted({name for _, name in entries})
    rng.shuffle(names)
    side = rng.choice((1, -1))
    return (tuple(side * (k + 1) for k in rng.sample(range(many), many)),
            tuple(side * (names.index(name) + 1) for _, name in entries),
            tuple(fewest_hues(world)) if len(world) < 9 else tuple(range(8)) + (0,) * (len(world) - 8))


def drawn_setup(rng, world):
    """A setup, good, with some spoiled places or hues, or with all of them drawn."""
    if rng.random() < 0.3:
        return Setup(world, Laying(world, random_places(rng, len(world.all_fields), 3)),
                     random_places(rng, len(entries_in(world)), 3), [rng.randrange(3) for _ in world])
    places, table, hues = good_rows(rng, world)
    for _ in range(rng.choice((0, 0, 1, 1, 2, 5))):
        spoiled = rng.choice((-2, -1, 1, 2))
        what = rng.randrange(3)
        row = list((places, table, hues)[what])
        if row:
            row[rng.randrange(len(row))] = spoiled if what < 2 else rng.randrange(3)
        places, table, hues = [tuple(row) if k == what else old for k, old in enumerate((places, table, hues))]
    return Setup(world, Laying(world, places), table, hues)


def later_setup(rng, setup):
    """A setup that extends this one by a class."""
    many = len(setup.world)
    world = setup.world.with_class(rng.sample(range(many), rng.randint(0, min(3, many))), rng.randint(0, 2),
                                   rng.sample(range(6), rng.randint(0, 2)))
    more = random_places(rng, len(world.all_fields) - len(setup.laying.places), 4)
    table = setup.table + random_places(rng, len(entries_in(world)) - len(setup.table), 4)
    return Setup(world, Laying(world, setup.laying.places + more), table, setup.hues + (rng.randint(0, 7),))


def random_edit(rng, world):
    """An edit of one of the forms, often one that is not refused."""
    many = len(world)
    c, name = rng.randrange(many), rng.randrange(6)
    word = rng.choice(("field", "unfield", "method", "unmethod", "base", "base", "unbase", "unbase", "class", "unclass"))
    if word in ("field", "unfield"):
        row = (word, c)
    elif word in ("method", "unmethod"):
        row = (word, c, rng.choice(world.methods[c]) if word == "unmethod" and world.methods[c] else name)
    elif word == "base":
        row = (word, c, rng.randrange(max(c, 1)), rng.randint(0, len(world.bases[c])))
    elif word == "unbase":
        row = (word, c, rng.choice(world.bases[c]) if world.bases[c] else 0)
    elif word == "class":
        bases = rng.sample(range(many), rng.randint(0, min(3, many)))
        row = (word, rng.choice((list, tuple))(bases), rng.randint(0, 2), rng.sample(range(6), rng.randint(0, 2)))
    else:
        row = (word,)
    return rng.choice((list, tuple))(row)


def due_edited(world, edit):
    """The world after an edit, or the word for which it is refused, judged apart from the package."""
    sizes = {"field": 2, "unfield": 2, "method": 3, "unmethod": 3, "base": 4, "unbase": 3, "class": 4, "unclass": 1}
    if not isinstance(edit, (list, tuple)) or not edit or type(edit[0]) is not str or sizes.get(edit[0]) != len(edit):
        return "form"
    word, many = edit[0], len(world)
    rows = [[list(bases), fields, list(methods)] for bases, fields, methods in world]
    whole = [type(thing) is int for thing in edit]
    if word == "class":
        if many == 12:
            return "many"
        try:
            return World(rows + [edit[1:]])
        except ValueError:
            return "class"
    if word == "unclass":
        return "many" if many == 1 else World(rows[:-1])
    if not whole[1] or not 0 <= edit[1] < many:
        return "class"
    return due_changed(rows, edit, whole)


def due_changed(rows, edit, whole):
    word, c = edit[:2]
    row = rows[c]
    if word in ("field", "unfield"):
        row[1] += 1 if word == "field" else -1
        return World(rows) if row[1] in (0, 1, 2, 3) else "many"
    if word in ("method", "unmethod"):
        if not whole[2] or edit[2] not in range(6):
            return "name"
        if (edit[2] in row[2]) == (word == "method"):
            return "method"
        (row[2].append if word == "method" else row[2].remove)(edit[2])
        return World(rows) if len(row[2]) < 4 else "many"
    if word == "unbase":
        if not whole[2] or edit[2] not in row[0]:
            return "base"
        row[0].remove(edit[2])
        return World(rows)
    if not whole[2] or edit[2] not in range(c) or edit[2] in row[0]:
        return "base"
    if not whole[3] or edit[3] not in range(len(row[0]) + 1):
        return "place"
    row[0].insert(edit[3], edit[2])
    return World(rows)
