"""Holerows: which rows count the faces and the holes of some family."""
