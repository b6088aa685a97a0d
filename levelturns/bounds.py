"""The bounds of what the package takes."""

MAX_SIDES = 8
MAX_REACHED = 5
MAX_NEAR = 4
MAX_WAY = 100
MAX_OPEN = 8
MAX_PRICE = 1000
MAX_EDITS = 40
MAX_NAMES = 30
MAX_ASKS = 30
