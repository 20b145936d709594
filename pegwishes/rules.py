"""The bounds that the program goes by."""

ROOTS = 1000000
WIDE = 24
HIGH = 12
STEPS = 24
