"""Two sides that put marks by turns: which ends the one can force."""

from pointingreads.blocks import entry_count
from pointingreads.checks import is_whole
from pointingreads.ends import least_read
from pointingreads.errors import BadNumber, BadPlace
from pointingreads.readers import need_fit
from pointingreads.searching import explored
from pointingreads.settled import is_still
from pointingreads.twofold import hand_steps

ONE = 0
OTHER = 1


def check_end(reader, row, end):
    """Refuses what is no end that the one can want."""
    need_fit(reader, row)
    if not (end is None or is_whole(end, 0, entry_count(row) - 1)):
        raise BadPlace(end)


class Game:
    """What comes from a row on; worths has how many marks force the end, None if it isn't forced.

    A state is a triple (STAND, HAND, TURN): HAND has the entry that is wanted, -1 if none is
    wanted, -2 if it is in no hand. TURN tells who puts the next mark. places has for each state
    its number, moves for each number the numbers of the next states.
    """

    def __init__(self, least, stand, hand, turn):
        self.reader = least
        self.steps = hand_steps(least)
        self.states, self.moves = explored((stand, hand, turn), self.nexts, None)
        self.worths = self.valued()

    def nexts(self, state):
        """For each mark the state behind it."""
        stand, hand, turn = state
        return [
            (behind, goes[hand] if hand >= 0 and goes[hand] >= 0 else -2 if hand != -1 else -1, 1 - turn)
            for behind, _, goes in self.steps[stand]
        ]

    def is_had(self, state):
        """Whether the end is had."""
        stand, hand, _ = state
        return is_still(self.reader, stand) and hand == self.reader[3][stand]

    def valued(self):
        """For each state how many marks force the end, None if it isn't forced."""
        values = [0 if self.is_had(state) else None for state in self.states]
        # how many marks of a state still lead to what isn't known to be forced
        waits = [len(row) for row in self.moves]
        ahead = [[] for _ in self.moves]
        for number, row in enumerate(self.moves):
            for behind in row:
                ahead[behind].append(number)
        layer = [number for number, value in enumerate(values) if value == 0]
        many = 0
        while layer:
            many += 1
            found = []
            for behind in layer:
                for number in ahead[behind]:
                    waits[number] -= 1
                    forced = self.states[number][2] == ONE or waits[number] == 0
                    if values[number] is None and forced:
                        values[number] = many
                        found.append(number)
            layer = found
        return values


def game_of(reader, row, end, turn):
    """The game for an end from a row on; its first state is the one behind the row."""
    least, stand, places = least_read(reader, row)
    if end is None:
        return Game(least, stand, -1, turn)
    return Game(least, stand, places.index(end) if end in places else -2, turn)


def forced_in(reader, row, end, turn):
    """How many marks of both sides the one needs to have the end, None if it isn't forced."""
    check_end(reader, row, end)
    if not is_whole(turn, ONE, OTHER):
        raise BadNumber(turn)
    return game_of(reader, row, end, turn).worths[0]


def forcing_mark(reader, row, end):
    """The least mark with which the one goes on to force the end, or None."""
    check_end(reader, row, end)
    game = game_of(reader, row, end, ONE)
    many = game.worths[0]
    if many is None or many == 0:
        return None
    behinds = [game.worths[behind] for behind in game.moves[0]]
    return behinds.index(many - 1)


def holding_mark(reader, row, end):
    """The least mark with which the other one keeps the end from being forced, or None."""
    check_end(reader, row, end)
    game = game_of(reader, row, end, OTHER)
    behinds = [game.worths[behind] for behind in game.moves[0]]
    return behinds.index(None) if None in behinds else None
