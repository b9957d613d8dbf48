"""Texts of sorts, and which strings they let, as the tests read them."""


def line_lets(words, letters):
    """Whether one line lets the letters of a string, by its words in [37]."""
    places = [place for place, letter in enumerate(letters) if letter != "I"]
    told = words[1:]
    if words[0] == "weight":
        return len(places) <= int(told[0])
    if words[0] == "letters":
        return all(letters[place] in told[0] for place in places)
    if words[0] == "near":
        pairs = [tuple(int(end) for end in word.split("-")) for word in told]
        return len(places) <= 1 or any(all(place in pair for place in places) for pair in pairs)
    if words[0] == "within":
        return all(str(place) in told for place in places)
    many = int(told[0])
    return not places or any(all(start <= place < start + many for place in places)
                             for start in range(len(letters) - many + 1))


def text_lets(text, letters):
    rows = [row.split() for row in text.split("\n")]
    return not letters.strip("I") or all(line_lets(words, letters) for words in rows if words)


def some_line(source, size):
    kind = source.choice(("weight", "letters", "near", "within", "run"))
    if kind in ("weight", "run"):
        words = [str(source.randrange(size + 1))]
    elif kind == "letters":
        words = ["".join(source.sample("XYZ", source.randrange(1, 4)))]
    elif kind == "within":
        words = [str(place) for place in source.sample(range(size), source.randrange(size + 1))]
    else:
        pairs = [(one, other) for one in range(size) for other in range(one)]
        words = ["-".join(str(end) for end in source.sample(pair, 2))
                 for pair in source.sample(pairs, source.randrange(len(pairs) + 1))]
    row = kind
    for word in words:
        row += " " * source.choice((1, 1, 1, 2, 3)) + word
    return " " * source.choice((0, 0, 0, 1, 3)) + row + " " * source.choice((0, 0, 0, 1, 2))


def some_text(source, size, most=4):
    rows = [some_line(source, size) for _ in range(source.randrange(most + 1))]
    for _ in range(source.randrange(3)):
        rows.insert(source.randrange(len(rows) + 1), source.choice(("", " ", "   ")))
    return "\n".join(rows) + source.choice(("", "\n", "\n\n"))
