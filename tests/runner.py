"""Programs as the tests run them: line by line, by the words of [53] to [61] and [69], on the standings of standings.py.

It shares nothing with the program but the class Pauli.
"""

from standings import Standing, held, held_letter, times

from keptqubits.paulis import Pauli

# what gates make of X and Z at their first and second place, as words of letters there, with a sign
IMAGES = {
    "h": {"X": ("Z", 0), "Z": ("X", 0)},
    "s": {"X": ("Y", 0), "Z": ("Z", 0)},
    "x": {"X": ("X", 0), "Z": ("Z", 2)},
    "y": {"X": ("X", 2), "Z": ("Z", 2)},
    "z": {"X": ("X", 2), "Z": ("Z", 0)},
    "cx": {"XI": ("XX", 0), "ZI": ("ZI", 0), "IX": ("IX", 0), "IZ": ("ZZ", 0)},
    "cz": {"XI": ("XZ", 0), "ZI": ("ZI", 0), "IX": ("ZX", 0), "IZ": ("IZ", 0)},
    "swap": {"XI": ("IX", 0), "ZI": ("IZ", 0), "IX": ("XI", 0), "IZ": ("ZI", 0)},
}


def read_word(size, word):
    """The string of a word."""
    letters = ["I"] * size
    sign = "-" if word.startswith("-") else ""
    rest = word[len(sign):]
    for part in rest.split("*") if rest != "I" else []:
        letters[int(part[1:])] = part[0]
    return Pauli(sign + "".join(letters))


def gated(kind, places, one):
    """What a gate makes of a held string, by its images of single letters."""
    x, z, power = one
    total = (x, z, power)
    for place in places:
        total = (total[0] & ~(1 << place), total[1] & ~(1 << place), total[2])
    for part, bits in (("X", x), ("Z", z)):
        for at, place in enumerate(places):
            if (bits >> place) & 1:
                key = part if len(places) == 1 else ("I" * at + part).ljust(2, "I")
                letters, phase = IMAGES[kind][key]
                for letter, where in zip(letters, places):
                    total = times(total, held_letter(letter, where))
                total = (total[0], total[1], (total[2] + phase) % 4)
    return total


def cut(text):
    """The lines of a text, the last one perhaps ended by a line feed."""
    rows = text.split("\n")
    return rows[:-1] if rows[-1] == "" else rows


def lines_and_tables(size, text):
    """The lines as (number, words), and the tables as dicts from bits to strings."""
    tables, lines, name = {}, [], None
    for number, row in enumerate(cut(text), start=1):
        words = row.split(" ")
        if words[0] == "table":
            name = words[1]
            tables[name] = {}
        elif words[0] == "row":
            tables[name][words[1]] = read_word(size, words[2])
        else:
            lines.append((number, words))
    return lines, tables


def places_of(size, words, tables):
    """The places of a line, for faults."""
    kind = words[0]
    if kind in ("lost", "flag", "end"):
        return []
    if kind == "measure":
        told = [read_word(size, words[1])]
    elif kind == "if":
        told = [read_word(size, words[-1])]
    elif kind == "look":
        told = list(tables[words[1]].values())
    else:
        return sorted(int(word) for word in words[1:])
    return sorted({place for string in told for place, letter in enumerate(string.letters) if letter != "I"})


def all_faults(size, text):
    """All faults as (line number, letters, flip), in the order of [75]."""
    lines, tables = lines_and_tables(size, text)
    found = []
    for number, words in lines:
        places = places_of(size, words, tables)
        told = [""]
        for place in range(size):
            told = [ahead + letter for ahead in told for letter in ("IXYZ" if place in places else "I")]
        for letters in sorted(told):
            for flip in (False, True) if words[0] == "measure" else (False,):
                if letters.strip("I") or flip:
                    found.append((number, letters, flip))
    return found


class Run:
    def __init__(self, standing, bits, halves, happened):
        self.standing, self.bits, self.halves, self.happened = standing, bits, halves, happened

    def row(self, names):
        return tuple(self.bits.get(name, 0) for name in names)


def names_of(text):
    return [row.split(" ")[3] for row in cut(text) if row.startswith("measure ")]


def run_all(size, text, standing, faults=None):
    """All runs from a standing; faults is a dict from numbers of lines to pairs (letters, flip)."""
    lines, tables = lines_and_tables(size, text)
    faults = faults or {}
    found = []
    waiting = [(0, Run(standing, {}, 0, ()))]
    while waiting:
        at, now = waiting.pop()
        if at == len(lines):
            found.append(now)
            continue
        number, words = lines[at]
        for behind in _stepped(size, words, tables, now):
            there = at + 1
            if words[0] == "flag" and not now.bits.get(words[1], 0):
                there = next(k for k in range(at, len(lines)) if lines[k][1][0] == "end")
            elif number in faults:
                behind = _faulty(behind, number, faults[number], words)
            waiting.append((there, behind))
    return found


def _faulty(now, number, fault, words):
    letters, flip = fault
    bits = dict(now.bits)
    if flip:
        bits[words[3]] = 1 - bits[words[3]]
    return Run(now.standing.put_on(held(Pauli(letters))), bits, now.halves, (*now.happened, number))


def _stepped(size, words, tables, now):
    kind, standing = words[0], now.standing
    if kind in IMAGES:
        places = [int(word) for word in words[1:]]
        standing = Standing([gated(kind, places, row) for row in standing.rows])
    elif kind in ("lost", "fresh"):
        place = int(words[1])
        standing = standing.lost(place)
        if kind == "fresh":
            standing = standing.joined(held_letter("Z", place))
    elif kind == "measure":
        told = standing.measured(held(read_word(size, words[1])))
        return [Run(behind, {**now.bits, words[3]: bit}, now.halves + len(told) - 1, now.happened)
                for bit, behind in told]
    elif kind == "if":
        if sum(now.bits.get(name, 0) for name in words[1:-2:2]) % 2:
            standing = standing.put_on(held(read_word(size, words[-1])))
    elif kind == "look":
        key = "".join(str(now.bits.get(name, 0)) for name in words[2:])
        if key in tables[words[1]]:
            standing = standing.put_on(held(tables[words[1]][key]))
    return [Run(standing, now.bits, now.halves, now.happened)]


def word(letters, sign=""):
    told = "*".join(f"{letter}{place}" for place, letter in enumerate(letters) if letter != "I")
    return sign + (told or "I")


def random_letters(source, size, most=4, none=False):
    while True:
        letters = ["I"] * size
        for place in source.sample(range(size), min(size, source.randint(1, most))):
            letters[place] = source.choice("IXYZ")
        if none or "".join(letters).strip("I"):
            return "".join(letters)


def random_text(source, size, many, most_bits=5, flags=True, looks=True, losses=True, most=3):
    """The text of a program with about so many lines."""
    widths = {}
    rows = []
    if looks and source.random() < 0.7:
        for name in ("t", "b1")[:source.randint(1, 2)]:
            widths[name] = source.randint(1, 2)
            rows.append(f"table {name}")
            chosen = source.sample(range(2 ** widths[name]), source.randint(1, 2 ** widths[name]))
            for number in chosen:
                letters = random_letters(source, size, most, True)
                rows.append(f"row {number:0{widths[name]}b} {word(letters, source.choice(['', '-']))}")
    bits, in_flag = [], False
    for _ in range(many):
        kind = source.choice("g g g m m m i l f f e w".split())
        if kind == "g" or kind == "w":
            gate = source.choice(["h", "s", "x", "y", "z", "cx", "cz", "swap"]) if kind == "g" else "wait"
            if gate in ("cx", "cz", "swap") and size > 1:
                rows.append("{} {} {}".format(gate, *source.sample(range(size), 2)))
            elif gate not in ("cx", "cz", "swap"):
                rows.append(f"{gate} {source.randrange(size)}")
        elif kind == "m" and len(bits) < most_bits:
            bits.append(f"b{len(bits)}")
            sign = source.choice(["", "", "-"])
            rows.append(f"measure {word(random_letters(source, size, most), sign)} to {bits[-1]}")
        elif kind == "i" and bits:
            named = [source.choice(bits) for _ in range(source.randint(1, 3))]
            rows.append(f"if {' + '.join(named)} then {word(random_letters(source, size, most, True))}")
        elif kind == "l" and bits and widths:
            name = source.choice(sorted(widths))
            rows.append(f"look {name} " + " ".join(source.choice(bits) for _ in range(widths[name])))
        elif kind == "f" and flags and bits and not in_flag:
            rows.append(f"flag {source.choice(bits)}")
            in_flag = True
        elif kind == "e" and in_flag:
            rows.append("end")
            in_flag = False
        elif kind == "w" and losses:
            rows.append(f"{source.choice(['lost', 'fresh'])} {source.randrange(size)}")
        if losses and source.random() < 0.1:
            rows.append(f"{source.choice(['lost', 'fresh'])} {source.randrange(size)}")
    if in_flag:
        rows.append("end")
    return "".join(row + "\n" for row in rows)


def standing_of(strings):
    """The standing of independent strings, as Paulis."""
    return Standing([held(told) for told in strings])


def same_standing(standing, group):
    """Whether a group of the program has just the strings of a standing."""
    return len(group.rows) == len(standing.rows) and all(standing.sign_of(held(row)) == 1 for row in group.rows)
