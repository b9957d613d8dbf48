"""Standings of [53] and some lines of programs, as the tests reckon with them: by the words of [55] to [57] alone.

A string is held as a triple (x, z, power): i ** power times an X at each bit of x, times a Z at each bit of z.
"""


def held(told):
    x = sum(1 << place for place, letter in enumerate(told.letters) if letter in "XY")
    z = sum(1 << place for place, letter in enumerate(told.letters) if letter in "YZ")
    return x, z, (told.phase + told.letters.count("Y")) % 4


def held_letter(letter, place):
    return int(letter in "XY") << place, int(letter in "YZ") << place, int(letter == "Y")


def times(one, other):
    # each Z of the one and X of the other at one place change the sign
    turned = (one[1] & other[0]).bit_count()
    return one[0] ^ other[0], one[1] ^ other[1], (one[2] + other[2] + 2 * turned) % 4


def commute(one, other):
    return ((one[0] & other[1]).bit_count() + (one[1] & other[0]).bit_count()) % 2 == 0


def minus(one):
    return one[0], one[1], (one[2] + 2) % 4


class Standing:
    """The products of independent held strings that are signed and commute."""

    def __init__(self, rows):
        self.rows = list(rows)

    def sign_of(self, told):
        """1 or -1 if the standing has the string or -1 times it, otherwise None."""
        table = []
        for row in [*self.rows, told]:
            for other in table:
                # the highest bit of another row is 0 in all rows behind it
                part = 0 if other[0] else 1
                if (row[part] >> (other[part].bit_length() - 1)) & 1:
                    row = times(row, other)
            table.append(row)
        x, z, power = table[-1]
        return None if x or z else 1 - power

    def lost(self, place):
        """What is left behind the loss of a place."""
        rows = list(self.rows)
        for part in (0, 1):
            with_it = [row for row in rows if (row[part] >> place) & 1]
            rows = [row for row in rows if not (row[part] >> place) & 1]
            rows += [times(with_it[0], row) for row in with_it[1:]]
        return Standing(rows)

    def joined(self, told):
        return Standing([*self.rows, told])

    def put_on(self, told):
        return Standing([row if commute(row, told) else minus(row) for row in self.rows])

    def measured(self, told):
        """The pairs (bit, standing behind it) that may come."""
        sign = self.sign_of(told)
        if sign is not None:
            return [((1 - sign) // 2, self)]
        turned = [row for row in self.rows if not commute(row, told)]
        rows = [row for row in self.rows if commute(row, told)]
        rows += [times(turned[0], row) for row in turned[1:]]
        return [(0, Standing([*rows, told])), (1, Standing([*rows, minus(told)]))]


def ends(standing, lines, read, choose=None):
    """The standings behind all runs of lines fresh, measure and if; read makes a string of a word.

    With choose, a function that takes one of several, just one run.
    """
    runs = [(standing, {})]
    for line in lines:
        words = line.split(" ")
        following = []
        for now, bits in runs:
            if words[0] == "fresh":
                place = int(words[1])
                following.append((now.lost(place).joined(held_letter("Z", place)), bits))
            elif words[0] == "measure":
                told = now.measured(held(read(words[1])))
                for bit, behind in told if choose is None else [choose(told)]:
                    following.append((behind, {**bits, words[3]: bit}))
            else:
                odd = sum(bits[name] for name in words[1:-2:2]) % 2
                following.append((now.put_on(held(read(words[-1]))) if odd else now, bits))
        runs = following
    return [now for now, _ in runs]
