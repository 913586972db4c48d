"""Changes: the fewest rules which, asked ahead of a gate, give some askings other answers."""

from gatewright.errors import BadAsking, BadWish
from gatewright.gates import word_table

MOST_WISHES = 5


def change(house, gate, wishes):
    """The fewest rules that give each wished asking its word, and leave all other answers as they are.

    NoGate, then BadWish, then TooMuch.
    """
    house.gate(gate)
    wanted = wanted_words(house, wishes)
    table = word_table(house, gate)
    found = []
    for word in ("let", "refuse"):
        for group in fewest_groups(table, wanted, word):
            found.append(rule_for(house, word, group))
    return found


def wanted_words(house, wishes):
    """The wished words by the numbers of their askings; BadWish."""
    if not isinstance(wishes, list) or not 1 <= len(wishes) <= MOST_WISHES:
        raise BadWish(-1)
    wanted = {}
    for place, wish in enumerate(wishes):
        numbers = wished_numbers(house, wish)
        if numbers is None or numbers in wanted:
            raise BadWish(place)
        wanted[numbers] = wish[1]
    return wanted


def wished_numbers(house, wish):
    """The numbers of the asking of a wish, None of what is no wish."""
    if not isinstance(wish, tuple) or len(wish) != 2:
        return None
    asking, word = wish
    if not isinstance(word, str) or word not in ("let", "refuse"):
        return None
    try:
        return house.numbers(asking)
    except BadAsking:
        return None


def fewest_groups(table, wanted, word):
    """As few groups as can be, each answered by one rule, of the wished askings that have another word so far."""
    some = [numbers for numbers in wanted if wanted[numbers] == word and table.leaf(numbers) != word]
    choices = range(1, 1 << len(some))
    good = [bits for bits in choices if may_stand(table, wanted, word, columns(chosen(some, bits)))]
    # Of each choice of the askings the fewest good groups, as bits; each asking alone is one.
    fewest = [[]]
    for bits in choices:
        ways = [fewest[bits - part] + [part] for part in good if (part & bits) == part]
        fewest.append(min(ways, key=len))
    return [chosen(some, part) for part in fewest[-1]]


def chosen(some, bits):
    """Those of some askings whose places the bits tell."""
    return [numbers for place, numbers in enumerate(some) if bits >> place & 1]


def columns(group):
    """For each field the rising numbers that some askings have in it, each once."""
    return [sorted(set(column)) for column in zip(*group)]


def may_stand(table, wanted, word, some_numbers):
    """Tells whether a rule of a word may have the box of some numbers for each field."""
    # All askings in the box come out with the word, so each one has to have it, or to be wished to.
    for numbers in all_of(some_numbers):
        if wanted.get(numbers, table.leaf(numbers)) != word:
            return False
    return True


def all_of(some_numbers):
    """All tuples with one of some numbers for each field."""
    found = [()]
    for column in some_numbers:
        found = [ahead + (number,) for ahead in found for number in column]
    return found


def rule_for(house, word, group):
    """The rule of a word whose box has just the values of some askings in each field."""
    conditions = []
    for field, column in zip(house.fields(), columns(group)):
        conditions.append((field.called(), False, tuple([atom_alone(field, number) for number in column])))
    return (word, None, tuple(conditions))


def atom_alone(field, number):
    """The atom that has the value of a number alone."""
    _, kind, things = field.plain()
    value = field.value_of(number)
    if kind == "names":
        return ("name", value)
    if kind == "tree":
        return ("path", value)
    if kind == "number":
        return ("from", number, number)
    if kind == "bits":
        return ("first", value)
    if kind == "marks":
        return ("marks", value, tuple([mark for mark in things if mark not in value]))
    assert kind == "clock"
    return ("clock", number, number)
