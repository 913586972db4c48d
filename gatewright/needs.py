"""Which rules of a gate do something: needless ones, those that are met, and what is left of a lean gate."""

from gatewright.errors import NoRule
from gatewright.gates import asking_with, first_unlike, rows_table, way_table, word_told
from gatewright.sets import whole_to
from gatewright.tablework import leaves
from gatewright.walking import flat


def need_shown(house, gate, place):
    """The least asking that has another answer without a rule, None where it is needless; NoGate, NoRule, TooMuch."""
    need_rule(house, gate, place)
    rows = flat(house, gate)

    def both_told(places):
        rest = [one for one in places if own_place(rows[one][0]) != place]
        return (word_told(rows, places), word_told(rows, rest))

    return first_unlike(house, rows_table(house, rows, both_told))


def meeting(house, gate, place):
    """The least asking whose way begins with a rule, None without one; NoGate, NoRule, TooMuch."""
    need_rule(house, gate, place)
    return asking_with(house, way_table(house, gate), lambda way: way is not None and own_place(way) == place)


def lean(house, gate):
    """The places that are left, when from the last rule on each needless one is left out; NoGate, then TooMuch."""
    rows = flat(house, gate)
    # All that can be told apart by any of the rules, so each choice of them is looked at here alone.
    alive = leaves(rows_table(house, rows, lambda places: tuple(places)))
    many = len(house.gate(gate)[2])
    left = list(range(many))
    words = words_left(rows, alive, left)
    for place in reversed(range(many)):
        rest = [one for one in left if one != place]
        if words_left(rows, alive, rest) == words:
            left = rest
    return left


def need_rule(house, gate, place):
    """Refuses with NoRule a place that a gate hasn't; NoGate comes ahead."""
    if not whole_to(len(house.gate(gate)[2]) - 1, place):
        raise NoRule("no rule at that place")


def own_place(way):
    """The place of the asked gate's own rule, with which a way begins."""
    return way[0][1]


def words_left(rows, alive, left):
    """The word for each choice of flat rules that have an asking, by the gate's own rules that are left."""
    found = []
    for places in alive:
        found.append(word_told(rows, [place for place in places if own_place(rows[place][0]) in left]))
    return found
