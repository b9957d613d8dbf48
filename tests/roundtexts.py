"""Rounds of codes for the tests, and what the tests reckon about them: by running all faults one by one."""

import itertools

from plain import letters_commute, single, string, strings
from runner import all_faults, names_of, random_letters, run_all, standing_of, word
from standings import held

from keptqubits.codes import Code


def beside(told, behind):
    """A string with other letters behind its own."""
    return string(told.letters + behind, told.phase)


def start_of(code, size):
    """The strings of the start for a program of this size: [67]."""
    ahead, twins = "I" * (size - code.size), "I" * code.kept
    found = [beside(row, ahead + twins) for row in code.group.rows]
    for index, pair in enumerate(code.hidden):
        for told, letter in zip(pair, "XZ"):
            found.append(beside(told, ahead + single(code.kept, index, letter).letters))
    return found


def class_left(code, size, standing):
    """Syndrome and hidden left in a standing, or (None, None)."""
    signs = [standing.sign_of(held(told)) for told in start_of(code, size)]
    if None in signs:
        return None, None
    bits = [int(sign == -1) for sign in signs]
    rank = code.group.rank
    hidden = []
    for at in range(rank, len(bits), 2):
        hidden += [bits[at + 1], bits[at]]
    return tuple(bits[:rank]), tuple(hidden)


def class_of(code, told):
    """The class of a string of the code's size."""
    syndrome = tuple(int(not letters_commute(row.letters, told.letters)) for row in code.group.rows)
    hidden = []
    for one, other in code.hidden:
        hidden += [int(not letters_commute(other.letters, told.letters)),
                   int(not letters_commute(one.letters, told.letters))]
    return syndrome, tuple(hidden)


def runs_with(code, size, text, faults=(), error=None):
    """The triples (bits, class left, numbers of the lines whose faults happened) of all runs from the start."""
    standing = standing_of(start_of(code, size))
    if error is not None:
        standing = standing.put_on(held(beside(error, "I" * (size - code.size + code.kept))))
    names = names_of(text)
    ended = run_all(size, text, standing, {number: (letters, flip) for number, letters, flip in faults})
    return [(run.row(names), class_left(code, size, run.standing), run.happened) for run in ended]


def is_round(code, size, text):
    return all(left[0] is not None for _, left, _ in runs_with(code, size, text))


def fault_rows(size, text, most):
    """All rows of at most so many faults, no two at one line."""
    for many in range(most + 1):
        for row in itertools.combinations(all_faults(size, text), many):
            if len({number for number, _, _ in row}) == many:
                yield row


def is_mended(code, table, left):
    """Whether a table mends a class."""
    if left[0] is None:
        return False
    return class_of(code, table.get(left[0], string("I" * code.size))) == left


def code_of(words, gauge="", hidden=None):
    rows = strings(words)
    return Code(rows[0].size, rows, strings(gauge), hidden)


def measured_by_helper(told, helper, bit):
    """Lines that measure a string by a helper."""
    rows = [f"fresh {helper}", f"h {helper}"]
    for place, letter in enumerate(told.letters):
        if letter == "X":
            rows.append(f"cx {helper} {place}")
        elif letter == "Z":
            rows.append(f"cz {helper} {place}")
        elif letter == "Y":
            rows += [f"cz {helper} {place}", f"cx {helper} {place}", f"s {helper}"]
    rows += [f"h {helper}", f"measure {'-' if told.phase else ''}Z{helper} to {bit}"]
    return rows


class RoundText:
    """The text of some round of a code, made piece by piece."""

    def __init__(self, source, code, size, pieces, most_bits=3, flags=True, looks=True, circuits=True):
        self.source, self.code, self.size = source, code, size
        self.most_bits, self.circuits = most_bits, circuits
        self.bits, self.head, self.widths = [], [], {}
        if looks and source.random() < 0.5:
            self.widths["t"] = source.randint(1, 2)
            self.head = ["table t"]
            for number in source.sample(range(2 ** self.widths["t"]), source.randint(1, 2)):
                letters = random_letters(source, size, 2, True)
                self.head.append(f"row {number:0{self.widths['t']}b} {word(letters)}")
        rows = []
        while len(rows) < pieces:
            if flags and self.bits and source.random() < 0.25:
                rows += [f"flag {source.choice(self.bits)}", *self.piece(), *self.broken(), "end"]
            else:
                rows += self.piece()
        self.text = "".join(row + "\n" for row in self.head + rows)

    def broken(self):
        """Perhaps a line that may ruin the start."""
        return ["h 0"] if self.source.random() < 0.2 else []

    def of_group(self):
        told = string("I" * self.code.size)
        for row in self.code.group.rows:
            if self.source.random() < 0.6:
                told = told.times(row)
        return told

    def piece(self):
        source, size, helpers = self.source, self.size, list(range(self.code.size, self.size))
        kind = source.choice("measure measure measure if look put wait coin gates".split())
        if kind in ("measure", "coin") and len(self.bits) < self.most_bits:
            bit = f"c{len(self.bits)}"
            told = self.of_group()
            if kind == "coin" and helpers:
                self.bits.append(bit)
                letter = source.choice("XYZ")
                return [f"measure {letter}{source.choice(helpers)} to {bit}"]
            if told.weight:
                self.bits.append(bit)
                if helpers and self.circuits and source.random() < 0.4:
                    return measured_by_helper(told, source.choice(helpers), bit)
                return [f"measure {word(told.letters, '-' if told.phase else '')} to {bit}"]
        if kind == "if" and self.bits:
            named = [source.choice(self.bits) for _ in range(source.randint(1, 2))]
            return [f"if {' + '.join(named)} then {word(random_letters(source, size, 2, True))}"]
        if kind == "look" and self.bits and self.widths:
            return ["look t " + " ".join(source.choice(self.bits) for _ in range(self.widths["t"]))]
        if kind == "put":
            return [f"{source.choice('xyz')} {source.randrange(size)}"]
        if kind == "wait":
            return [f"wait {source.randrange(size)}"]
        if kind == "gates" and size > 1:
            gate = "{} {} {}".format(source.choice(["cx", "cz", "swap"]), *source.sample(range(size), 2))
            return [gate, gate]
        if helpers:
            return [f"{source.choice(['lost', 'fresh'])} {source.choice(helpers)}"]
        return []


SMALL_CODES = ("ZZ", "XX", "Z", "-Y", "ZZI IZZ", "XXX", "XXXX ZZZZ", "-YX", "ZX XZ")
