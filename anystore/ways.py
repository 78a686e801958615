"""Ways between machines, which lose what they carry (points 21 to 24)."""

from anystore.errors import NoNumber, NoStore, NoWay, TooLost
from anystore.forms import is_within
from anystore.places import put

MOST_HOLD = 6
MOST_MISS = 4
MOST_BOUND = 40


def marks(hold):
    """How many marks there are."""
    return 2 * hold + 1


def round_beats(hold, *, miss=1):
    return miss * miss + 2 * hold


def way_beats(hold, *, miss=1):
    return miss * miss + 4 * hold


class Way:
    """A way from one machine to another: a sender and a taker, letters between them, and echoes back.

    Its store is (mark, bears, slot, letters, last, took, box, echoes).
    """

    def __init__(self, hold, *, miss=1, bound=10):
        if not is_within(hold, 1, MOST_HOLD):
            raise NoWay("hold")
        if not is_within(miss, 1, MOST_MISS):
            raise NoWay("miss")
        if not is_within(bound, 1, MOST_BOUND):
            raise NoWay("bound")
        self.hold = hold
        self.miss = miss
        self.bound = bound
        self.kept = (0, 0, None, (), 0, 0, None, ())
        # How many letters, and how many echoes, were lost last, one behind another.
        self.gone = (0, 0)

    def beat(self, *, word=None, taking=False, lost=(False, False)):
        """Hand on, send, put and take; tell whether the word was put, and what was taken."""
        if word is not None and not is_word(word, self.bound):
            raise NoNumber(word)
        side = self.side_lost(lost)
        if side != "":
            raise TooLost(side)
        mark, bears, slot, letters, last, took, box, echoes = self.kept
        letter = (mark, slot if bears == 1 else None)
        sender = sender_behind(mark, bears, slot, echoes, marks(self.hold))
        taker = taker_behind(last, took, box, letters)
        echo = () if len(letters) == 0 else (taker[:2],)
        if word is not None and slot is None:
            sender = put(sender, 2, word)
        if taking and box is not None:
            taker = put(taker, 2, None)
        self.gone = self.gone_behind(lost)
        self.kept = (*sender, row_behind(letters, (letter,), lost[0]), *taker, row_behind(echoes, echo, lost[1]))
        return (None if word is None else slot is None, box if taking else None)

    def side_lost(self, lost):
        """Of which as many as miss would be lost by a beat: "letters", "echoes", or ""; nothing is done."""
        letters, echoes = self.gone_behind(lost)
        if letters >= self.miss:
            return "letters"
        return "echoes" if echoes >= self.miss else ""

    def gone_behind(self, lost):
        """How many letters and echoes will have been lost last, behind a beat that loses these."""
        letters, echoes = self.gone
        letters = letters + 1 if lost[0] else 0
        if len(self.kept[3]) > 0:
            echoes = echoes + 1 if lost[1] else 0
        return (letters, echoes)

    def store(self):
        return self.kept

    def spoil(self, store):
        """Let the store become this one, nothing being lost as yet."""
        if not is_store(self, store):
            raise NoStore("no store of the way")
        self.kept = store
        self.gone = (0, 0)

    def is_plain(self):
        mark, bears, slot, letters, last, took, box, echoes = self.kept
        ahead = (mark - 1) % marks(self.hold)
        if bears == 1 and slot is None:
            return False
        if last != mark and last != ahead:
            return False
        return (
            row_is_plain(letters, ahead, (mark, slot if bears == 1 else None))
            and row_is_plain(echoes, ahead, (mark, took))
            and ahead not in [letter[0] for letter in letters if last == mark]
            and mark not in [echo[0] for echo in echoes if last != mark])

    def under_way(self):
        """The words that were put and not yet taken, in order; None where it isn't plain."""
        if not self.is_plain():
            return None
        mark, bears, slot, letters, last, took, box, echoes = self.kept
        # The slot's word is in the box, or was taken from it, already.
        if bears == 1 and took == 1 and last == mark:
            slot = None
        return [word for word in (box, slot) if word is not None]

    def __eq__(self, other):
        return (
            isinstance(other, Way) and self.hold == other.hold and self.miss == other.miss
            and self.bound == other.bound and self.kept == other.kept and self.gone == other.gone)

    def __len__(self):
        return len(self.kept[3] + self.kept[7])

    def __repr__(self):
        return f"Way({self.hold}, {self.miss}, {self.bound})"


def sender_behind(mark, bears, slot, echoes, many):
    """The sender's mark, bears and slot behind the first echo; many is how many marks there are."""
    if len(echoes) == 0 or echoes[0][0] != mark:
        return (mark, bears, slot)
    onward = (mark + 1) % many
    if bears == 1 and echoes[0][1] == 1:
        return (onward, 0, None)
    return (onward, 0 if slot is None else 1, slot)


def taker_behind(last, took, box, letters):
    """The taker's last, took and box behind the first letter."""
    if len(letters) == 0 or letters[0][0] == last:
        return (last, took, box)
    mark, word = letters[0]
    if word is not None and box is None:
        return (mark, 1, word)
    return (mark, 0, box)


def row_behind(row, sent, is_lost):
    """A row behind a beat: its first one is handed on, what is sent stands last or is lost."""
    return row[1:] if is_lost else row[1:] + sent


def row_is_plain(row, ahead, own):
    """Whether a row has first some of the mark ahead, then none but this own one."""
    later = [one for one in row if one[0] != ahead]
    return later == [own] * len(later) and later == list(row[len(row) - len(later):])


def is_word(thing, bound):
    return is_within(thing, 0, bound - 1)


def is_store(way, thing):
    """Whether any thing is a store of the way."""
    if not isinstance(thing, tuple) or len(thing) != 8:
        return False
    mark, bears, slot, letters, last, took, box, echoes = thing
    return (
        is_mark(way, mark) and is_within(bears, 0, 1) and is_slot(way, slot) and is_mark(way, last)
        and is_within(took, 0, 1) and is_slot(way, box) and is_letters(way, letters) and is_echoes(way, echoes))


def is_mark(way, thing):
    return is_within(thing, 0, marks(way.hold) - 1)


def is_slot(way, thing):
    return thing is None or is_word(thing, way.bound)


def is_letters(way, thing):
    return is_row_of_pairs(way, thing) and all([is_slot(way, letter[1]) for letter in thing])


def is_echoes(way, thing):
    return is_row_of_pairs(way, thing) and all([is_within(echo[1], 0, 1) for echo in thing])


def is_row_of_pairs(way, thing):
    """Whether any thing is a tuple of at most hold pairs, each with a mark first."""
    if not isinstance(thing, tuple) or len(thing) > way.hold:
        return False
    return all([isinstance(one, tuple) and len(one) == 2 and is_mark(way, one[0]) for one in thing])
