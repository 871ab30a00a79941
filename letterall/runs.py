"""Runs: moves that a picker picks, and moves that are told, made from the first world on."""

from letterall.deeds import after_move, may_be_made, moves
from letterall.errors import NoMove
from letterall.worlds import first


def run(program, pick, most):
    made = []
    worlds = [first(program)]
    while len(made) < most:
        may = moves(program, worlds[-1])
        if len(may) == 0:
            break
        # The picker may change the list that it is asked with, so it gets one of its own.
        move = may[pick(list(may)) % len(may)]
        made.append(move)
        worlds.append(after_move(program, worlds[-1], move))
    return (made, worlds)


def walk(program, made):
    worlds = [first(program)]
    for at, move in enumerate(made):
        if not may_be_made(program, worlds[-1], move):
            raise NoMove(at)
        worlds.append(after_move(program, worlds[-1], move))
    return worlds
