"""Houses and gates, shown as texts of lines that read as them."""

from gatewright.atoms import atom_of


def shown(house):
    """The text of a house, a line each, without anything more."""
    fields, groups, gates = house.plain()
    lines = [field_line(plain) for plain in fields]
    lines.extend([" ".join(["group", field, name, *members]) for field, name, members in groups])
    lines.extend([gate_shown(house, plain) for plain in gates])
    return "\n".join(lines)


def gate_shown(house, plain):
    """The text of a gate, by the house's fields: its line and those of its rules."""
    name, order, rules = plain
    named = {field.called(): field for field in house.fields()}
    lines = [" ".join(["gate", name, order])]
    lines.extend([rule_line(named, rule) for rule in rules])
    return "\n".join(lines)


def field_line(plain):
    """The line of a field."""
    name, kind, things = plain
    words = ["field", name, kind]
    if isinstance(things, tuple):
        words.extend(things)
    elif things is not None:
        words.append(str(things))
    return " ".join(words)


def rule_line(named, rule):
    """The line of a rule; the fields are handed in by their names."""
    word, gate, conditions = rule
    words = [word] if gate is None else [word, gate]
    for name, is_turned, atoms in conditions:
        texts = "|".join([atom_of(plain).text(named[name]) for plain in atoms])
        words.append(name + (":!" if is_turned else ":") + texts)
    return " ".join(words)
