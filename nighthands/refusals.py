"""The refusals, in the order in which they count."""

NO_HANDS = -9
OUT_OF_RANGE = -1
MISSING = -4
NOT_ALLOWED = -7
TAKEN_BACK = -5
FULL = -6
