"""A desk for codes, sorts, tables and programs, with promises about them that each edit keeps."""

from keptqubits.deskfiles import KINDS, cut_file, file_text, lines_of_file, named_piece, read_all
from keptqubits.errors import (BadName, BadNumber, BadText, NoName, NothingToRedo, NothingToUndo, NotKept, TakenName)
from keptqubits.kinds import is_integer
from keptqubits.names import is_name
from keptqubits.promises import Answers, Promise


class Content:
    """The items of a desk, and the texts of its promises."""

    def __init__(self, pieces, vows):
        self.pieces = tuple(pieces)
        self.vows = tuple(vows)


class State:
    """What a desk holds now, what it held ahead of the edits that can be undone, and what was undone.

    inside tells whether it stands in an attempt or a trial.
    """

    def __init__(self, content, past, future, inside):
        self.content = content
        self.past = past
        self.future = future
        self.inside = inside


class Saved:
    """The state ahead of a trial, and what is saved for the trials around it."""

    def __init__(self, state, outer):
        self.state = state
        self.outer = outer


class Desk:
    """A desk; whatever it holds is replaced as a whole, so that what was there can be taken back."""

    def __init__(self, text=""):
        self.state = State(Content(_put_in([], text), []), (), (), False)
        self.saved = None
        self.answers = Answers()

    def put(self, text):
        """Put the items of a file in their places, or behind the last one."""
        content = self.state.content
        self._edited(Content(_put_in(content.pieces, text), content.vows))

    def edit(self, name, number, text):
        """Put the lines of a text in the place of a line of an item."""
        _check_string(name)
        _check_text(text)
        content = self.state.content
        piece = named_piece(content.pieces, name, KINDS)
        if not is_integer(number) or not 1 <= number <= len(piece.body) + 1:
            raise BadNumber("line", number)
        body = [*piece.body[:number - 1], *lines_of_file(text), *piece.body[number:]]
        pieces = [piece.unread(body) if other.name == name else other for other in content.pieces]
        self._edited(Content(_read_again(pieces, [name]), content.vows))

    def drop(self, name):
        """Take an item away, and the promises about it."""
        _check_string(name)
        content = self.state.content
        gone = named_piece(content.pieces, name, KINDS)
        tables = _tables_of(content.pieces, [name])
        if tables:
            raise TakenName(tables[0].name)
        pieces = [piece for piece in content.pieces if piece.name != gone.name]
        self._edited(Content(pieces, [vow for vow in content.vows if not Promise(vow).has_name(name)]))

    def rename(self, name, new):
        """Give an item a new name."""
        if not is_name(new):
            raise BadName(new)
        _check_string(name)
        content = self.state.content
        called = named_piece(content.pieces, name, KINDS)
        if new in self.names():
            raise TakenName(new)
        tables = [table.name for table in _tables_of(content.pieces, [name])]
        pieces = []
        for piece in content.pieces:
            if piece.name == called.name:
                piece = piece.renamed(new, piece.last)
            elif piece.name in tables:
                piece = piece.renamed(piece.name, new)
            pieces.append(piece)
        self._edited(Content(pieces, [Promise(vow).renamed(name, new) for vow in content.vows]))

    def keep(self, promise):
        """Make a promise."""
        content = self.state.content
        self.answers.witness_of(promise, content.pieces)
        vows = content.vows if promise in content.vows else [*content.vows, promise]
        self._edited(Content(content.pieces, vows))

    def release(self, promise):
        """Take a promise back."""
        _check_text(promise)
        content = self.state.content
        if promise not in content.vows:
            raise NoName(promise)
        self._edited(Content(content.pieces, [vow for vow in content.vows if vow != promise]))

    def attempt(self, action):
        """Call a function with the desk, all of whose edits are one; if it fails, nothing is changed."""
        before = self.state
        done = None
        self.state = State(before.content, (), (), True)
        try:
            told = action(self)
            content = self.state.content
            if not before.inside:
                self._check_vows(content)
            self.state = State(content, (*before.past, before.content), (), before.inside)
            done = True
        finally:
            if done is None:
                self.state = before
        return told

    def trial(self, action):
        """Call a function with the desk, and take all of its edits back."""
        before = self.state
        self.state = State(before.content, (), (), True)
        try:
            return action(self)
        finally:
            self.state = before

    def __enter__(self):
        self.saved = Saved(self.state, self.saved)
        self.state = State(self.state.content, (), (), True)
        return self

    def __exit__(self, kind, value, trace):
        self.state = self.saved.state
        self.saved = self.saved.outer

    def undo(self):
        """Take the last edit back."""
        state = self.state
        if not state.past:
            raise NothingToUndo()
        self.state = State(state.past[-1], state.past[:-1], (*state.future, state.content), state.inside)

    def redo(self):
        """Do again what was taken back last."""
        state = self.state
        if not state.future:
            raise NothingToRedo()
        self.state = State(state.future[-1], (*state.past, state.content), state.future[:-1], state.inside)

    def lines(self):
        """The text of the file."""
        return file_text(self.state.content.pieces)

    def names(self):
        """The names of the items."""
        return tuple([piece.name for piece in self.state.content.pieces])

    def promises(self):
        """The texts of the promises."""
        return self.state.content.vows

    def get_code(self, name):
        """The Code of this name."""
        return self._value(name, "code")

    def get_sort(self, name):
        """The Sort of this name."""
        return self._value(name, "sort")

    def get_table(self, name):
        """The table of this name, as a new dict."""
        table = self._value(name, "table").table
        return {syndrome: table[syndrome] for syndrome in table}

    def get_program(self, name):
        """The Program of this name."""
        return self._value(name, "program")

    def sound(self, promise):
        """Whether a promise is kept now, and a witness if it is not."""
        witness = self.answers.witness_of(promise, self.state.content.pieces)
        return witness is None, witness

    def broken(self):
        """The promises that are not kept now, each with a witness."""
        content = self.state.content
        found = [(vow, self.answers.witness_of(vow, content.pieces)) for vow in content.vows]
        return tuple([(vow, witness) for vow, witness in found if witness is not None])

    def _value(self, name, kind):
        _check_string(name)
        return named_piece(self.state.content.pieces, name, (kind,)).value

    def _check_vows(self, content):
        """Refuse what does not keep its promises."""
        for vow in content.vows:
            witness = self.answers.witness_of(vow, content.pieces)
            if witness is not None:
                raise NotKept(vow, witness)

    def _edited(self, content):
        """Hold what an edit has made, if its promises are kept."""
        state = self.state
        if not state.inside:
            self._check_vows(content)
        self.state = State(content, (*state.past, state.content), (), state.inside)


def _check_string(name):
    if not isinstance(name, str):
        raise BadName(name)


def _check_text(text):
    if not isinstance(text, str):
        raise BadText(0, 0)


def _tables_of(pieces, names):
    """The tables whose code has one of these names."""
    return [piece for piece in pieces if piece.kind == "table" and piece.last in names]


def _put_in(pieces, text):
    """The items with those of a file in their places, or behind the last one."""
    new = {piece.name: piece for piece in cut_file(text)}
    found = [new.get(piece.name, piece) for piece in pieces]
    old = [piece.name for piece in pieces]
    found.extend([new[name] for name in new if name not in old])
    return _read_again(found, list(new))


def _read_again(pieces, names):
    """The items, with what is unread and the tables of the codes of these names read."""
    tables = [piece.name for piece in _tables_of(pieces, names) if piece.value is not None]
    found = [piece.unread(piece.body) if piece.name in tables else piece for piece in pieces]
    read_all(found)
    return found
