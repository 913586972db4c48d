"""Gates asked: their rules in the order in which they are asked, answers, and flat lists."""

from gatewright.errors import TooMuch
from gatewright.sets import cut, has, size

MOST_FLAT = 10


def asked(house, gate):
    """The places of a gate's rules in the order in which they are asked; NoGate."""
    _, order, rules = house.gate(gate)
    places = list(range(len(rules)))
    if order == "refusals":
        refusing = [place for place in places if rules[place][0] == "refuse"]
        return refusing + [place for place in places if rules[place][0] != "refuse"]
    if order == "narrow":
        many = [box_size(box) for box in house.boxes_of(gate)]
        return sorted(places, key=lambda place: many[place])
    return places


def box_size(box):
    """How many askings are in a box."""
    many = 1
    for one in box:
        many *= size(one)
    return many


def box_has(box, numbers):
    """Tells whether the asking whose values have these numbers is in a box."""
    for one, number in zip(box, numbers):
        if not has(one, number):
            return False
    return True


def answered(house, gate, asking):
    """The word that a gate answers to an asking, and the way to the rule that gave it; NoGate, then BadAsking."""
    house.gate(gate)
    return walked(house, gate, house.numbers(asking))


def walked(house, gate, numbers):
    """What a gate answers, as a word and a way, both None where no rule of it answers."""
    rules = house.gate(gate)[2]
    boxes = house.boxes_of(gate)
    for place in asked(house, gate):
        if box_has(boxes[place], numbers):
            word, target, _ = rules[place]
            if target is None:
                return (word, ((gate, place),))
            word, way = walked(house, target, numbers)
            if word is not None:
                return (word, ((gate, place),) + way)
    return (None, None)


def flat(house, gate):
    """The flat list of a gate, (WAY, WORD, BOX) for each rule that lets or refuses; NoGate, then TooMuch."""
    return flat_known(house, gate, {})


def flat_known(house, gate, known):
    """The flat list of a gate, where those of some other gates are known by their names."""
    rules = house.gate(gate)[2]
    boxes = house.boxes_of(gate)
    found = []
    for place in asked(house, gate):
        word, target, _ = rules[place]
        if target is None:
            found.append((((gate, place),), word, boxes[place]))
        else:
            # A gate that is passed to twice is worked out once, however many gates are behind it.
            if target not in known:
                known[target] = flat_known(house, target, known)
            for way, inner, box in known[target]:
                found.append((((gate, place),) + way, inner, box_cut(boxes[place], box)))
        if len(found) > MOST_FLAT:
            raise TooMuch("more than ten flat rules")
    return found


def box_cut(one, other):
    """The box of what is in both of two boxes."""
    return tuple([cut(here, there) for here, there in zip(one, other)])
