"""The numbers that refuse a call; such a number is answered alone."""

OUT_OF_RANGE = -1
SAME_PLACE = -4
ROAD_IS_THERE = -5
NO_MORE_ROADS = -6
