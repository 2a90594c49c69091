"""Sheets: a drawing with the moves that were done on it, and those that were taken back."""

from plait.moves import done
from plait.simple import simpler


class Sheet:
    def __init__(self, drawing):
        self.drawing = drawing
        # Tuples of a move that stands and the drawing ahead of it.
        self.standing = []
        self.taken_back = []

    def go(self, move):
        ahead = self.drawing
        self.drawing = done(ahead, move)
        self.standing.append((move, ahead))

    def do_move(self, move):
        self.go(move)
        self.taken_back = []

    def undo(self):
        last = self.standing.pop()
        self.drawing = last[1]
        self.taken_back.append(last[0])

    def redo(self):
        self.go(self.taken_back.pop())

    def take_down(self):
        moves = simpler(self.drawing)[1]
        for move in moves:
            self.do_move(move)
        return moves

    def moves_that_stand(self):
        return [entry[0] for entry in self.standing]
