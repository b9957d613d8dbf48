"""Tracks: what the lines of a program do to standings, reckoned once for all signs.

A *state* is a number: its lowest bits are those that the program has told so far, the first one the highest of these;
above them stands a bit for each slot, 1 if the string there has the other sign (see slots).
"""

from keptqubits.bitnumbers import reduced_numbers
from keptqubits.gateworks import GATES
from keptqubits.slots import crossed_slots, freed, gated, put_in_slot, reduced_in_slots, told_by_slots
from keptqubits.stringbits import bits_of, held_of, parity, second_half, single_bits


class Node:
    """A line of a program, counted from 0, and the strings in slots that meet it."""

    def __init__(self, line, rows):
        self.line = line
        self.rows = rows
        # what the line does is found when it is asked for
        self.move = None
        self.effects = None


class Move:
    """What a line does to states."""

    def __init__(self, rows):
        # the strings behind it, and the nodes to go on with: the second one where a flag is 0
        self.rows = rows
        self.after = None
        self.skipped = None
        self.flag = 0
        # pairs (bit, mask): states with the bit change by the mask
        self.turns = []
        # the bit that is told: a coin, or the parity of what is asked, changed by always
        self.told = 0
        self.coin = 0
        self.asked = 0
        self.always = 0
        # what is put on if an odd number of these bits are 1, or if the bits looked at are one of the chosen
        self.odd = 0
        self.change = 0
        self.looked = 0
        self.chosen = {}
        # for each new slot a triple (bit, slots, sign); and the bits that stay
        self.remade = None
        self.stays = 0


class Effects:
    """What faults behind a line do to states: the sums of some changes."""

    def __init__(self, changes):
        self.changes = changes
        self.table = reduced_numbers(changes)
        # for each sum of changes one number, 0 first
        self.sums = [0]
        for row in self.table:
            self.sums = self.sums + [number ^ row for number in self.sums]


class Track:
    """A program, run from standings with some strings in slots; these have as many places as size says, or more."""

    def __init__(self, program, size, rows):
        self.program = program
        self.size = size
        self.many = len(program.bits)
        self.length = len(program.steps)
        self.nodes = {}
        self.first = self._node(0, rows)
        self.ends = _ends_of_flags(program.steps)

    def bit_of(self, name):
        """The bit of a state that a bit of the program is told by."""
        return 1 << (self.many - 1 - self.program.bits.index(name))

    def move_of(self, node):
        """What the line of a node does."""
        if node.move is None:
            line = self.program.steps[node.line]
            move = self._made_move(line, node.rows)
            move.after = self._node(node.line + 1, move.rows)
            if line.kind == "flag":
                move.flag = self.bit_of(line.reads[0])
                move.skipped = self._node(self.ends[node.line], node.rows)
            node.move = move
        return node.move

    def effects_of(self, node):
        """What faults behind the line of a node do."""
        if node.effects is None:
            line = self.program.steps[node.line]
            move = self.move_of(node)
            singles = single_bits(self.size, fault_places(line))
            changes = [self._slots(crossed_slots(self.size, bits, move.rows)) for bits in singles]
            if line.kind == "measure":
                changes.append(move.told)
            node.effects = Effects(changes)
        return node.effects

    def change_of(self, node, fault):
        """What one fault behind the line of a node does to a state."""
        move = self.move_of(node)
        change = self._crossed(fault.string, move.rows)
        return change ^ move.told if fault.flip else change

    def _node(self, line, rows):
        key = (line, tuple(rows))
        if key not in self.nodes:
            self.nodes[key] = Node(line, tuple(rows))
        return self.nodes[key]

    def _slots(self, slots):
        return slots << self.many

    def _crossed(self, string, rows):
        """The bits of the slots that a string of the program's size changes."""
        return self._slots(crossed_slots(self.size, widened(bits_of(string), string.size, self.size), rows))

    def _made_move(self, line, rows):
        kind = line.kind
        if kind in GATES:
            return Move(gated(self.size, kind, line.places, rows))
        if kind in ("lost", "fresh"):
            return self._lost(line, rows)
        if kind == "measure":
            return self._measured(line, rows)
        if kind == "end":
            return self._ended(rows)
        move = Move(rows)
        if kind == "if":
            for name in line.reads:
                move.odd = move.odd ^ self.bit_of(name)
            move.change = self._crossed(line.string, rows)
        elif kind == "look":
            self._looked_at(move, line)
        return move

    def _turned(self, move, crossed):
        """Free a slot so that no string is left that must not be crossed."""
        move.rows, slot, mask = freed(self.size, move.rows, crossed)
        if slot:
            move.turns.append((self._slots(slot), self._slots(mask)))

    def _lost(self, line, rows):
        move = Move(rows)
        one, other = single_bits(self.size, line.places)
        self._turned(move, crossed_slots(self.size, one, move.rows))
        self._turned(move, crossed_slots(self.size, other, move.rows))
        if line.kind == "fresh":
            move.rows, _ = put_in_slot(move.rows, (other, 0))
        return move

    def _measured(self, line, rows):
        move = Move(rows)
        move.told = self.bit_of(line.bit)
        bits, power = held_of(line.string)
        held = (widened(bits, line.string.size, self.size), power)
        crossed = crossed_slots(self.size, held[0], rows)
        known = None if crossed else told_by_slots(self.size, held, rows)
        if known is None:
            self._turned(move, crossed)
            move.rows, slot = put_in_slot(move.rows, held)
            move.coin = self._slots(slot) | move.told
        else:
            slots, sign = known
            move.asked = self._slots(slots)
            move.always = sign
        return move

    def _looked_at(self, move, line):
        for name in line.reads:
            move.looked = move.looked | self.bit_of(name)
        for word, string in line.rows:
            ones = [self.bit_of(name) for name, sign in zip(line.reads, word) if sign == "1"]
            zeros = [self.bit_of(name) for name, sign in zip(line.reads, word) if sign == "0"]
            # a bit that stands twice is not 0 and 1 at once
            if not [bit for bit in ones if bit in zeros]:
                key = 0
                for bit in ones:
                    key = key | bit
                move.chosen[key] = self._crossed(string, move.rows)

    def _ended(self, rows):
        """Bring the strings to one form, so that what was run behind a flag, and what was not, may meet again."""
        reduced = reduced_in_slots(self.size, rows)
        move = Move([held for held, _, _ in reduced])
        move.remade = [(self._slots(1 << slot), self._slots(slots), sign)
                       for slot, (_, slots, sign) in enumerate(reduced)]
        move.stays = self._slots(1) - 1
        return move


def fault_places(line):
    """The places at which faults happen behind a line."""
    if line.kind == "lost":
        return []
    strings = [string for _, string in line.rows]
    if line.string is not None:
        strings.append(line.string)
    found = list(line.places)
    for string in strings:
        found.extend([place for place, letter in enumerate(string.letters) if letter != "I"])
    return sorted(set(found))


def widened(bits, size, wider):
    """The bits of a string with I at more places behind its own."""
    return ((bits >> size) << (2 * wider - size)) | (second_half(size, bits) << (wider - size))


def turned_state(move, state):
    """A state behind the turns of a line."""
    for bit, mask in move.turns:
        if state & bit:
            state = state ^ mask
    return state


def outs_of(move, state):
    """The states that a line makes of one: two of them for a coin."""
    state = turned_state(move, state)
    if move.coin:
        return [state, state | move.coin]
    if move.told:
        return [state | move.told if parity(state & move.asked) != move.always else state]
    if move.odd and parity(state & move.odd):
        return [state ^ move.change]
    if move.looked:
        return [state ^ move.chosen.get(state & move.looked, 0)]
    if move.remade is not None:
        return [_remade(move, state)]
    return [state]


def next_of(move, state):
    """The node that a state goes on with behind a line."""
    if move.flag and not state & move.flag:
        return move.skipped
    return move.after


def walk(track, start, changes):
    """All runs from a state: triples (node, state, halves), the node behind the last line.

    changes are pairs (line, fault): what happens behind the lines that are run; halves tells how many coins fell.
    """
    faults = {line: fault for line, fault in changes}
    found = []
    left = [(track.first, start, 0)]
    while left:
        node, state, halves = left.pop()
        if node.line == track.length:
            found.append((node, state, halves))
            continue
        move = track.move_of(node)
        change = track.change_of(node, faults[node.line]) if node.line in faults else 0
        if move.coin:
            halves += 1
        for out in outs_of(move, state):
            left.append((next_of(move, out), out ^ change, halves))
    return found


def _remade(move, state):
    """The state with the signs of the strings in their new slots."""
    found = state & move.stays
    for bit, slots, sign in move.remade:
        if parity(state & slots) != sign:
            found = found | bit
    return found


def _ends_of_flags(lines):
    """For each line flag the line of its end."""
    found = {}
    flag = 0
    for index, line in enumerate(lines):
        if line.kind == "flag":
            flag = index
        if line.kind == "end":
            found[flag] = index
    return found
