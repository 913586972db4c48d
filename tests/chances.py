"""Fields, conditions, gates and houses made by chance, each good by the document; small ones, to be looked through."""

PEOPLE = ("ann", "bob", "cy", "dan", "eve", "fay", "gus", "hal", "ida")
GROUPS = ("crew", "guests", "lead", "staff", "z")
PATHS = ("a", "a/b", "a/b/c", "ab", "b", "b/a", "b/a/a", "c/a", "c/c")
MARKS = ("read", "write", "own", "lend", "x")
NAMES = ("who", "where", "many", "how", "at", "net")
KINDS = ("names", "tree", "number", "bits", "marks", "clock")


def some_of(chance, things, low, high):
    """From low to high of some things, none twice, in any order."""
    return tuple(chance.sample(things, chance.randint(low, min(high, len(things)))))


def field_by_chance(chance, name, kind, wide=3):
    """A field of about so many values, or as wide."""
    if kind == "names":
        return (name, kind, some_of(chance, PEOPLE, 1, wide + 1))
    if kind == "tree":
        return (name, kind, some_of(chance, PATHS, 1, wide + 2))
    if kind == "number":
        return (name, kind, chance.randint(0, 2 * wide))
    if kind == "bits":
        return (name, kind, chance.randint(1, wide))
    if kind == "marks":
        return (name, kind, some_of(chance, MARKS, 1, wide))
    return (name, kind, None)


def groups_by_chance(chance, fields, most):
    """Groups of the fields of names, members told ahead."""
    found = []
    for field in fields:
        if field[1] == "names":
            told = list(field[2])
            for name in some_of(chance, GROUPS, 0, 4):
                found.append((field[0], name, some_of(chance, told, 1, 9)))
                told.append(name)
    return tuple(found[:most])


def range_by_chance(chance, most):
    low, high = sorted((chance.randint(0, most), chance.randint(0, most)))
    return ("from", chance.choice((low, low, None)), chance.choice((high, high, None)))


def marks_by_chance(chance, marks):
    wanted = [chance.choice((0, 1, 2)) for _ in marks]
    wanted[chance.randrange(len(marks))] = chance.choice((1, 2))
    return ("marks", tuple(mark for mark, one in zip(marks, wanted) if one == 1),
            tuple(mark for mark, one in zip(marks, wanted) if one == 2))


def atom_by_chance(chance, field, groups):
    name, kind, things = field
    if kind == "names":
        return ("name", chance.choice(things + tuple(group for of, group, _ in groups if of == name)))
    if kind == "tree":
        return chance.choice((("path", chance.choice(things)), ("under", chance.choice(PATHS + ("", "zz")))))
    if kind == "number":
        return range_by_chance(chance, things)
    if kind == "bits":
        return ("first", "".join(chance.choice("01") for _ in range(chance.randint(0, things))))
    if kind == "marks":
        return marks_by_chance(chance, things)
    begin = chance.choice((0, 1, 425, 1439, chance.randint(0, 1439)))
    return ("clock", begin, chance.choice((begin, 0, 1438, 1439, chance.randint(0, 1439))))


def condition_by_chance(chance, field, groups):
    atoms = tuple(atom_by_chance(chance, field, groups) for _ in range(chance.choice((1, 1, 2, 3, 5))))
    return (field[0], chance.random() < 0.3, atoms)


def gate_by_chance(chance, name, fields, groups, ahead, most=8):
    """A gate, which passes to gates ahead."""
    rules = []
    for _ in range(chance.randint(0, most)):
        some = chance.sample(fields, chance.randint(0, len(fields)))
        conditions = tuple(condition_by_chance(chance, field, groups) for field in some)
        word = chance.choice(("let", "refuse", "pass"))
        passes = len([rule for rule in rules if rule[0] == "pass"])
        if word == "pass" and (not ahead or passes == 2):
            word = "let"
        rules.append((word, chance.choice(ahead) if word == "pass" else None, conditions))
    return (name, chance.choice(("first", "refusals", "narrow")), tuple(rules))


def great_field_by_chance(chance, name):
    """A field of very many values, or of a few."""
    kind = chance.choice(KINDS + ("number", "bits"))
    if kind == "number":
        return (name, kind, chance.choice((10 ** 12, 10 ** 12 - 1, 2 ** 32)))
    if kind == "bits":
        return (name, kind, chance.choice((32, 31, 17)))
    return field_by_chance(chance, name, kind)


def gates_by_chance(chance, fields, groups, many, rules):
    """1 to so many gates, which pass to those ahead of them."""
    gates = []
    for name in ("door", "gate", "lock", "yard", "pass")[:chance.randint(1, many)]:
        gates.append(gate_by_chance(chance, name, fields, groups, [gate[0] for gate in gates], rules))
    return tuple(gates)


def house_by_chance(chance, kinds=KINDS[:5], many=3, wide=2, rules=4):
    """A house of 1 to so many fields, told as a tuple."""
    names = chance.sample(NAMES, chance.randint(1, many))
    fields = tuple(field_by_chance(chance, name, chance.choice(kinds), wide) for name in names)
    groups = groups_by_chance(chance, fields, 9)
    return (fields, groups, gates_by_chance(chance, fields, groups, 5, rules))


def great_house_by_chance(chance, many=2, rules=3):
    """A house of 1 to so many great fields, told as a tuple; few conditions, so that its borders can be looked through."""
    names = chance.sample(NAMES, chance.randint(1, many))
    fields = tuple(great_field_by_chance(chance, name) for name in names)
    groups = groups_by_chance(chance, fields, 9)
    return (fields, groups, gates_by_chance(chance, fields, groups, 3, rules))
