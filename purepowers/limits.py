"""The limits of numbers, looks, roots and lists."""

MOST_SIZE = 10 ** 30
MOST_LOOKS = 20
MOST_LOOKED = 1000
MOST_DEGREE = 60
MOST_ROOTS = 5
MOST_LISTED = 200
