"""How much there may be of everything that has a bound."""

MOST_ROWS = 4
MOST_NEST = 2
MOST_OFFERS = 8
MOST_STAGES = 3
MOST_STEPS = 4
MOST_PARTS = 4
MOST_RUNS = 40
MOST_ENTRIES = 60
MOST_PAIRS = 200
MOST_DEEDS = 400
