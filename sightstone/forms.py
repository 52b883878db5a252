"""Least forms, and the moves that bring one stone onto another."""

from sightstone.moves import all_moves, moved_block, moved_stone


def moved_form(sizes, move, stone):
    """Answer the tuple of the moved block's sizes and the moved stone."""
    return (moved_block(sizes, move), moved_stone(sizes, move, stone))


def least_form(sizes, stone):
    """Answer the least tuple (sizes, stone) that a move makes of the block and stone."""
    return min([moved_form(sizes, move, stone) for move in all_moves()])


def move_between(sizes, stone, others, other):
    """Answer the first move that brings the one block and stone onto the other ones, or None."""
    for move in all_moves():
        if moved_form(sizes, move, stone) == (others, other):
            return move
    return None
