"""How great nets, counts, lists and books may be."""

MAX_PLACES = 24
MAX_ROADS = 60
MAX_COUNT = 10 ** 30
MAX_HOLE = 10 ** 28
MAX_TRIPS = 200
MAX_ALL = 1000
MAX_SOME = 10
MAX_NOTS = 8
MAX_ASKS = 40
MAX_ROOMS = 6
MAX_BEATS = 6
MAX_EDITS = 40
