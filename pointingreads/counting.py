"""How many entries of blocks a sieve picks, whatever has been asked of both before."""

from math import lcm

from pointingreads.blocks import from_the_end
from pointingreads.orbits import orbit, orbit_at, state_behind_blocks


def picks_in(sieve, marks, left, right):
    """The offsets of the picked ones of some marks between a left and a right state."""
    _, lefts, rights, pick = sieve
    behind = []
    for mark in marks[::-1]:
        behind.append(right)
        right = rights[right][mark]
    found = []
    for offset, mark in enumerate(marks):
        if pick[left][mark][behind[-1 - offset]]:
            found.append(offset)
        left = lefts[left][mark]
    return found


def repetition_runs(left_orbit, right_orbit, times):
    """The repetitions of a block as runs (start, stop, rounds).

    Those from start to stop - 1 have their frames, and so have as many behind them, round for
    round, as rounds tells: at both ends of a block the states may not have come to their
    circles, between the ends both go round.
    """
    left_order, left_back = left_orbit
    right_order, right_back = right_orbit
    head = min(left_back, times)
    tail = min(right_back, times - head)
    once = lcm(len(left_order) - left_back, len(right_order) - right_back)
    rounds, rest = divmod(times - head - tail, once)
    runs = [(0, head, 1)]
    if rounds > 0:
        runs.append((head, head + once, rounds))
    runs.append((times - tail - rest, times - tail, 1))
    runs.append((times - tail, times, 1))
    return runs


def block_picks(sieve, block, left, right):
    """Runs (numbers, rounds): how many picks each repetition of a block has."""
    marks, times = block
    left_orbit = orbit(sieve[1], left, marks)
    right_orbit = orbit(sieve[2], right, marks[::-1])
    known = {}
    found = []
    for start, stop, rounds in repetition_runs(left_orbit, right_orbit, times):
        numbers = []
        for done in range(start, stop):
            ahead = orbit_at(left_orbit[0], left_orbit[1], done)
            behind = orbit_at(right_orbit[0], right_orbit[1], times - 1 - done)
            if (ahead, behind) not in known:
                known[(ahead, behind)] = len(picks_in(sieve, marks, ahead, behind))
            numbers.append(known[(ahead, behind)])
        found.append((numbers, rounds))
    return found


def frames_of(sieve, blocks, right):
    """For each block its left state, and its right state if the right state is behind all."""
    behind = []
    for block in blocks[::-1]:
        behind.append(right)
        right = state_behind_blocks(sieve[2], right, from_the_end((block,)))
    found = []
    left = 0
    for number, block in enumerate(blocks):
        found.append((left, behind[-1 - number]))
        left = state_behind_blocks(sieve[1], left, (block,))
    return found


def runs_total(runs):
    """The sum of all numbers of some runs."""
    return sum([sum(numbers) * rounds for numbers, rounds in runs])


def picks_total(sieve, blocks, right):
    """How many entries of blocks are picked, if the right state is behind them."""
    frames = frames_of(sieve, blocks, right)
    return sum([
        runs_total(block_picks(sieve, block, frames[number][0], frames[number][1]))
        for number, block in enumerate(blocks)
    ])


def repetition_with(runs, number):
    """The repetition that has the pick with this number, and which one of its picks it is.

    None and the number that is left if the runs have fewer.
    """
    done = 0
    for numbers, rounds in runs:
        once = sum(numbers)
        if number >= once * rounds:
            number -= once * rounds
            done += len(numbers) * rounds
        else:
            skipped, number = divmod(number, once)
            done += len(numbers) * skipped
            for many in numbers:
                if number < many:
                    return done, number
                number -= many
                done += 1
    return None, number


def pick_place(sieve, blocks, number):
    """The place of the pick with this number in a whole row, or None."""
    frames = frames_of(sieve, blocks, 0)
    ahead = 0
    for at, block in enumerate(blocks):
        marks, times = block
        left, right = frames[at]
        done, number = repetition_with(block_picks(sieve, block, left, right), number)
        if done is not None:
            left = state_behind_blocks(sieve[1], left, ((marks, done),))
            right = state_behind_blocks(sieve[2], right, ((marks[::-1], times - 1 - done),))
            return ahead + done * len(marks) + picks_in(sieve, marks, left, right)[number]
        ahead += len(marks) * times
    return None
