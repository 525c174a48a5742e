"""The codes that refused calls are answered with."""

NO_STOCK = -11
NOT_THERE = -2
OUT_OF_LIMITS = -22
FULL = -28
