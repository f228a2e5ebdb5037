"""How many worlds, stocks and plain words there are, far powers, and sums of words."""
