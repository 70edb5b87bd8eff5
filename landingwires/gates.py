"""Gates: how many items of a book are done with, and so which landings a house has."""

from landingwires.positions import is_position


def landing_gate(order, item):
    """The gate to which a landing of an item leads."""
    return item if order[item][1] else item + 1


def gates_behind(order, kinds):
    """The gates at which one can be behind landings of these kinds, the lowest one first."""
    gates = with_passed(order, [0])
    for kind in kinds:
        led = [landing_gate(order, gate) for gate in gates if gate < len(order) and order[gate][0] == kind]
        gates = with_passed(order, led)
    return gates


def with_passed(order, gates):
    """These gates, and those to which one comes from them without a landing."""
    found = []
    for gate in range(len(order) + 1):
        if gate in gates or (gate - 1 in found and order[gate - 1][1]):
            found.append(gate)
    return found


def are_landings(book, value):
    """Whether any value is the landings of a house of the book."""
    if not isinstance(value, tuple) or not value:
        return False
    if not all([is_landing(book, landing) for landing in value]):
        return False
    return len(book.order) in gates_behind(book.order, [kind for kind, position in value])


def is_landing(book, value):
    """Whether any value is a pair of a kind of the book and a position of it."""
    if not isinstance(value, tuple) or len(value) != 2 or value[0] not in book:
        return False
    return is_position(value[1], len(book.switches(value[0])))
