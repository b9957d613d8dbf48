"""Rounds for ever: what any number of rounds with faults leaves, and whether it can be mended."""

from keptqubits.errors import BadNumber, HasFlag
from keptqubits.faults import faults_from
from keptqubits.searches import PairSearch, Search, beginning, round_of
from keptqubits.starts import (Mending, check_many, check_no_gauge, check_places, checked_round, class_pair, made_round)
from keptqubits.stringbits import bit_tuple
from keptqubits.tracks import next_of, outs_of


class Forever:
    """All classes that histories leave, where a table mends them all."""

    def __init__(self, classes):
        self.classes = tuple(classes)


class History:
    """The faults and the bits of each round of a history that leaves what a table does not mend."""

    def __init__(self, rounds, bits):
        self.rounds = tuple(rounds)
        self.bits = tuple(bits)


class ForeverPairs:
    """All sums of two classes that two histories with the same bits leave, where no two part the stored."""

    def __init__(self, differences):
        self.differences = tuple(differences)


class TwoHistories:
    """The faults of two histories that part the stored, and the bits that both can tell."""

    def __init__(self, one, other, bits):
        self.one = tuple(one)
        self.other = tuple(other)
        self.bits = tuple(bits)


def forever(code, program, table, t):
    """Whether a table mends all that histories with at most t faults a round leave: a Forever or a History."""
    told = checked_round(code, program)
    check_many("t", t)
    marks, link = _judged([told], Mending(code, table), t)
    return _forever(code, marks) if link is None else _history(told, link)


def two_neighbors(code, program, table, t):
    """The same with at most t faults in any two rounds, one behind the other."""
    told = checked_round(code, program)
    check_many("t", t)
    mending = Mending(code, table)
    searches = [Search(told.track, most) for most in range(t + 1)]
    # how few faults the last round of a history may have that leaves a class
    least = {}
    latest = [(0, 0, None)]
    while latest:
        following = []
        for used in range(t + 1):
            starts = [told.start(mark, 0, (link, None, 0, 0)) for mark, cost, link in latest if cost == used]
            for node, state, cost, link in searches[t - used].reach(starts):
                mark = told.left_in(node, state)
                if not mending.mends(mark):
                    return _history(told, link)
                if mark not in least or cost < least[mark]:
                    least[mark] = cost
                    following.append((mark, cost, link))
        latest = following
    return _forever(code, list(least))


def any_order(code, programs, table, t):
    """The same as forever, where any one of some programs is run in each round."""
    check_no_gauge(code)
    if len(programs) == 0:
        raise BadNumber("programs", 0)
    for program in programs:
        check_places(code, program)
    rounds = [made_round(code, program) for program in programs]
    check_many("t", t)
    marks, link = _judged(rounds, Mending(code, table), t)
    if link is None:
        return _forever(code, marks)
    told = _all_rounds(rounds, link)
    return History([(index, faults) for index, faults, _ in told], [bits for _, _, bits in told])


def greatest_t(code, program, table, most):
    """The greatest t up to most for which forever tells a Forever, or None."""
    told = checked_round(code, program)
    check_many("most", most)
    mending = Mending(code, table)
    for t in range(most + 1):
        _, link = _judged([told], mending, t)
        if link is not None:
            return t - 1 if t else None
    return most


def forever_pairs(code, program, t):
    """Whether no two histories with the same bits part the stored: a ForeverPairs or TwoHistories."""
    told = checked_round(code, program)
    if program.flagged:
        raise HasFlag()
    check_many("t", t)
    # where two runs differ by a fault, either of them may have it
    search = PairSearch(told.track, 2 * t)
    met = {}
    latest = [(0, None)]
    while latest:
        following = []
        for node, state, _, link in search.reach([told.start(mark, 0, (end, None, 0, 0)) for mark, end in latest]):
            mark = told.left_in(node, state) ^ told.left_in(node, 0)
            # only hidden bits differ
            if 0 < mark < 1 << (2 * code.kept):
                return _two_histories(told, link, t)
            if mark not in met:
                met[mark] = True
                following.append((mark, link))
        latest = following
    return ForeverPairs([class_pair(code, mark) for mark in sorted(met)])


def unseen(code, program):
    """How many rounds what one fault leaves goes unseen, at most; None if there is no greatest number."""
    told = checked_round(code, program)
    plain = {bits: True for bits, _ in told.ends_from(0, [])}
    behind = {}
    latest = [mark for mark in _left_by_one(told) if mark]
    while latest:
        mark = latest.pop()
        if mark not in behind:
            behind[mark] = [end for bits, end in told.ends_from(mark, []) if bits in plain]
            latest.extend([end for end in behind[mark] if end])
    return _longest(behind)


def _judged(rounds, mending, t):
    """About histories with at most t faults a round: the marks left, and a link to one that is not mended, or None."""
    searches = [Search(told.track, t) for told in rounds]
    met = {}
    latest = [(0, None)]
    while latest:
        following = []
        for index, told in enumerate(rounds):
            starts = [told.start(mark, 0, (end, None, index, 0)) for mark, end in latest]
            for node, state, _, link in searches[index].reach(starts):
                mark = told.left_in(node, state)
                if not mending.mends(mark):
                    return [], link
                if mark not in met:
                    met[mark] = True
                    following.append((mark, link))
        latest = following
    return list(met), None


def _all_rounds(rounds, link):
    """What a link tells: for each round the index of its program, its faults and its bits."""
    found = []
    while link is not None:
        _, _, index, _ = beginning(link)
        (link, _, _, _), faults, bits = round_of(rounds[index].track, link)
        found.append((index, faults_from(faults), bits))
    return list(reversed(found))


def _forever(code, marks):
    return Forever([class_pair(code, mark) for mark in sorted(marks)])


def _history(told, link):
    rounds = _all_rounds([told], link)
    return History([faults for _, faults, _ in rounds], [bits for _, _, bits in rounds])


def _two_histories(told, link, t):
    """The two histories of a link of differences: faults are shared out, and bits are found by running both."""
    one = []
    other = []
    bits = []
    mark = other_mark = 0
    lines = {line.number: index for index, line in enumerate(told.program.steps)}
    for _, faults, _ in _all_rounds([told], link):
        one.append(faults[:t])
        other.append(faults[t:])
        ends = {row: end for row, end in told.ends_from(mark, _changes(lines, one[-1]))}
        other_ends = {row: end for row, end in told.ends_from(other_mark, _changes(lines, other[-1]))}
        row = min([row for row in ends if row in other_ends])
        mark, other_mark = ends[row], other_ends[row]
        bits.append(bit_tuple(row, told.track.many))
    return TwoHistories(one, other, bits)


def _changes(lines, faults):
    return [(lines[fault.line], fault) for fault in faults]


def _left_by_one(told):
    """The marks of all that just one fault leaves behind the class none; None among them if it ruins the start."""
    track = told.track
    before = Search(track, 0)
    before.reach([told.start(0, 0, None)])
    starts = []
    for node, met in before.best.items():
        if node.line < track.length:
            move = track.move_of(node)
            effects = track.effects_of(node)
            # a string that changes nothing is a fault, too
            sums = effects.sums if len(effects.table) < len(effects.changes) else effects.sums[1:]
            for state in met:
                for out in outs_of(move, state):
                    starts.extend([(next_of(move, out), out ^ change, 0, None) for change in sums])
    return [told.left_in(node, state) for node, state, _, _ in Search(track, 0).reach(starts)]


def _longest(behind):
    """The length of the longest way from class to class, told with what is behind each one; None if one goes round."""
    lengths = {}
    left = list(behind)
    while left:
        waiting = []
        for mark in left:
            following = [end for end in behind[mark] if end]
            if [end for end in following if end not in lengths]:
                waiting.append(mark)
            else:
                ways = [lengths[end] for end in following] + [0]
                lengths[mark] = 1 + max(ways) if behind[mark] else 0
        if len(waiting) == len(left):
            return None
        left = waiting
    return max([lengths[mark] for mark in lengths] + [0])
