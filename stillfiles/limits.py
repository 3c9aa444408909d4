"""The numbers that hold where a caller tells none."""

AGE = 10
LET = 10
KEEP = 3
SIZE = 8
TRIES = 4
