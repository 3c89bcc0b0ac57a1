"""The bounds of halls and searches, and the prices that have names."""

MOST_ROOMS = 40
MOST_DOORS = 60
MOST_STONES = 12
MOST_WALKERS = 6
MOST_ROWS = 4
MOST_HEFT = 9999999
MOST_HANDS = 9
MOST_SPOTS = 2000
MOST_TURNINGS = 200

# Prices of go, lift, lay and wait, in this order.
STEPS = (1, 1, 1, 1)
LAYINGS = (0, 0, 1, 0)
