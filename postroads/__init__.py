"""Posts on roads: the fewest and the cheapest that have every place in reach, each with a witness."""
