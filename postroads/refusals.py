"""The numbers that refuse a call; such a number is answered alone."""

OUT_OF_RANGE = -1
LIST_NOT_AS_TOLD = -2
NOT_ALLOWED_THERE = -3
SAME_PLACE = -4
ROAD_IS_THERE = -5
NO_MORE_ROADS = -6
BEYOND_ALL_POSTS = -7
ROADS_LEAD_ROUND = -8
