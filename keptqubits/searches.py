"""Searches for what faults can make of states, with as few of them as possible.

Behind each line a fault changes a state by one of the sums of some changes. So states that differ by such a sum are
looked at together, and only the first one of them with the fewest faults is changed.

How a state was met is told by a *link*, a tuple (earlier link, node, change, state) for the last line that told a bit
or had a fault behind it; for the state with which a round begins the node is None, and the change is whatever was told
with it.
"""

from keptqubits.bitnumbers import combination, rest_by
from keptqubits.stringbits import bit_tuple, letters_of, parity, single_bits, string_from
from keptqubits.tracks import fault_places, next_of, outs_of, turned_state


class Search:
    """The states that are met along a track, each with the fewest faults, at most so many."""

    def __init__(self, track, most):
        self.track = track
        self.most = most
        self.best = {}
        self.dead = _dead_bits(track)

    def outs(self, move, state):
        """What a line makes of a state."""
        return outs_of(move, state)

    def lets(self, move, state):
        """Whether to go on with a state behind a line and what faults do there."""
        return True

    def reach(self, starts):
        """What is met from starts, tuples (node, state, cost, link), and was not met before with so few faults.

        It is told in the same form, with nodes that stand behind the last line.
        """
        waiting = [{} for _ in range(self.track.length + 1)]
        for node, state, cost, link in starts:
            self._meet(waiting, node, state, (cost, link))
        for line in range(self.track.length):
            for node, met in list(waiting[line].items()):
                self._pass(waiting, node, met)
            # what is behind goes on by itself
            waiting[line] = {}
        ends = waiting[self.track.length]
        return [(node, state, cost, link) for node, met in ends.items() for state, (cost, link) in met.items()]

    def _meet(self, waiting, node, state, told):
        # bits that no line reads from here on make no difference
        state = state & ~self.dead[node.line]
        known = self.best.setdefault(node, {})
        if state not in known or told[0] < known[state]:
            known[state] = told[0]
            waiting[node.line].setdefault(node, {})[state] = told

    def _pass(self, waiting, node, met):
        """Go on behind the line of a node from what is met there."""
        move = self.track.move_of(node)
        effects = self.track.effects_of(node)
        fewest = {}
        for state, (cost, link) in met.items():
            for out in self.outs(move, state):
                if self.lets(move, out):
                    # a line that tells no bit, and has no fault, needs no link
                    told = (cost, (link, node, 0, out) if move.told else link)
                    self._meet(waiting, next_of(move, out), out, told)
                if cost < self.most and effects.table:
                    rest = rest_by(out, effects.table)
                    if rest not in fewest or cost < fewest[rest][0]:
                        fewest[rest] = (cost, link, out)
        for cost, link, out in fewest.values():
            for change in effects.sums:
                if self.lets(move, out ^ change):
                    self._meet(waiting, move.after, out ^ change, (cost + 1, (link, node, change, out ^ change)))


class PairSearch(Search):
    """The same for the differences of two runs that tell the same bits."""

    def outs(self, move, state):
        """What a line makes of a difference; equal bits put on equal strings, and make no difference."""
        state = turned_state(move, state)
        if move.coin:
            return [state, state | move.coin]
        if move.told and parity(state & move.asked):
            return [state | move.told]
        return [state]

    def lets(self, move, state):
        """Whether the bits that are told are the same."""
        return not state & move.told


def round_of(track, link):
    """What a link tells of its last round: the link that it began with, its faults by lines, and its bits.

    A fault is a triple (number of the line in the text, string, flip).
    """
    faults = []
    told = 0
    earlier, node, change, state = link
    while node is not None:
        line = track.program.steps[node.line]
        if change:
            faults.append(_fault_of(track, node, line, change))
        told = told | (state & track.move_of(node).told)
        link = earlier
        earlier, node, change, state = link
    return link, tuple(list(reversed(faults))), bit_tuple(told, track.many)


def beginning(link):
    """The link with which the last round of a link began."""
    while link[1] is not None:
        link = link[0]
    return link


def _fault_of(track, node, line, change):
    """A fault behind a line that makes a change."""
    chosen = combination(track.effects_of(node).changes, change)
    size = track.program.size
    singles = single_bits(size, fault_places(line))
    bits = sum([singles[index] for index in chosen if index < len(singles)])
    return line.number, string_from(letters_of(size, bits), 0), len(singles) in chosen


def _dead_bits(track):
    """For each line, and behind the last one, the bits that are not read from there on."""
    dead = (1 << track.many) - 1
    found = [dead]
    for line in reversed(track.program.steps):
        for name in line.reads:
            dead = dead & ~track.bit_of(name)
        found.append(dead)
    return list(reversed(found))
