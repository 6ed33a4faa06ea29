"""Stuck papers: lists of places that show that no order explains a tale."""

from talejudge.judge import judged
from talejudge.places import Board, all_places


def stuck_paper(tale, strictness):
    if judged(tale, strictness) is not None:
        return None
    return all_places(tale, strictness)


def is_stuck(tale, strictness, paper):
    board = Board(tale, strictness)
    if not isinstance(paper, list) or not all([board.has_place(value) for value in paper]):
        return False
    held = dict([(place, True) for place in paper])
    if board.first not in held:
        return False
    for place in held:
        if board.ends_at(place) or not goes_on_within(board, place, held):
            return False
    return True


def goes_on_within(board, place, held):
    return all([step[2] in held for step in board.steps_from(place)])
