"""The judge: looks for an order that explains a tale."""

from talejudge.places import Board


def judged(tale, strictness):
    board = Board(tale, strictness)
    seen = {}
    waiting = [([], board.first)]
    while len(waiting) > 0:
        reached = waiting.pop()
        if board.ends_at(reached[1]):
            return reached[0]
        # The last one is taken first: so, turned round, the least deed is tried ahead of the others.
        for number, answer, place in reversed(board.steps_from(reached[1])):
            if place not in seen:
                seen[place] = True
                waiting.append((reached[0] + [(number, answer)], place))
    return None
