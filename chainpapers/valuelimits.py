"""The greatest numbers, lengths and depths of values with a row."""

MOST_VALUE = 4294967295
MOST_SIGNS = 20
MOST_ITEMS = 60
MOST_DEEP = 10
