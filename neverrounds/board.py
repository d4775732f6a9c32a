"""The board: a line for each group, with its start and the latest moment at which it comes home."""


def board(desk):
    """The list of the lines of the board, in the order of booking."""
    return [f"{name:<12} {start:>20} {start + tour.longest:>20}" for name, tour, start in desk.groups()]
