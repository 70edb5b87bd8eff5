"""Rules: a rule reads the landings of a house from the lowest one up and says lit or not."""

from landingwires.errors import BadRule
from landingwires.positions import all_positions, told_position, written
from landingwires.values import is_ascending, is_name

BEGIN = 'begin'
LIT = 'lit'
MOST_MOVES = 60
MOST_STATES = 6


class Rule:
    """A rule that tells which houses are lit; it never changes."""

    def __init__(self, text):
        begin, moves, lit, states = read_rule(text)
        self._text = text
        self._begin = begin
        self._moves = moves
        self._lit = lit
        self._states = states

    @property
    def text(self):
        """The text, as it was handed in."""
        return self._text

    @property
    def states(self):
        """All states, ascending."""
        return self._states

    @property
    def begin(self):
        """The state in which it begins."""
        return self._begin

    @property
    def lit(self):
        """The states at which it says lit."""
        return self._lit

    def led(self, state, kind, position):
        """The state to which a landing of this kind in this position leads."""
        return self._moves.get((state, kind, position), state)

    def __call__(self, house):
        state = self._begin
        for kind, position in house.landings:
            state = self.led(state, kind, position)
        return state in self._lit

    def __invert__(self):
        others = [state for state in self._states if state not in self._lit]
        lines = self._text.split('\n')
        return Rule('\n'.join([*lines[:-1], ' '.join([LIT, *others])]))

    def __eq__(self, other):
        return isinstance(other, Rule) and self._text == other._text


def odd(book):
    """The rule that says lit if an odd number of all switches stands in 1."""
    lines = ['begin even']
    for kind in book.kinds:
        for position in all_positions(len(book.switches(kind))):
            if sum(position) % 2 == 1:
                lines.append(f'even {kind} {written(position)} odd')
                lines.append(f'odd {kind} {written(position)} even')
    return Rule('\n'.join([*lines, 'lit odd']))


def read_rule(text):
    """(begin, moves, lit, states) of a text, moves leading from (state, kind, position) to a state; or BadRule."""
    if not isinstance(text, str):
        raise BadRule(0)
    lines = text.split('\n')
    begin = told_begin(lines[0])
    if begin is None:
        raise BadRule(1)
    moves, states = read_moves(lines, begin)
    at = 1 + len(moves)
    lit = told_lit(lines[at]) if at < len(lines) else None
    if lit is None or len(with_states(states, lit)) > MOST_STATES:
        raise BadRule(at + 1)
    if at + 1 < len(lines):
        raise BadRule(at + 2)
    return begin, moves, lit, with_states(states, lit)


def told_begin(line):
    """The state that the first line tells, or None."""
    words = line.split(' ')
    return words[1] if len(words) == 2 and words[0] == BEGIN and is_state_name(words[1]) else None


def read_moves(lines, begin):
    """The moves that stand behind the first line, up to the first line that tells none, and the states told so far."""
    moves = {}
    states = (begin,)
    at = 1
    while at < len(lines) and len(moves) < MOST_MOVES:
        move = told_move(lines[at])
        if move is None:
            break
        start, after = move
        states = with_states(states, (start[0], after))
        if start in moves or len(states) > MOST_STATES:
            raise BadRule(at + 1)
        moves[start] = after
        at = at + 1
    return moves, states


def told_move(line):
    """(state, kind, position) and the state to which they lead, as a line tells them, or None."""
    words = line.split(' ')
    if len(words) != 4 or not is_state_name(words[0]) or not is_name(words[1]) or not is_state_name(words[3]):
        return None
    position = told_position(words[2])
    return None if position is None else ((words[0], words[1], position), words[3])


def told_lit(line):
    """The states that the last line tells, or None."""
    words = line.split(' ')
    if words[0] != LIT or not all([is_state_name(word) for word in words[1:]]) or not is_ascending(words[1:]):
        return None
    return tuple(words[1:])


def is_state_name(word):
    """Whether a word is the name of a state."""
    return is_name(word) and word not in (BEGIN, LIT)


def with_states(states, more):
    """These states and those, ascending."""
    return tuple(sorted(set([*states, *more])))
