"""The numbers that limit boards, searches and counts."""

MOST_SWITCHES = 5
MOST_SETTINGS = 48
MOST_SEARCHED = 16
MOST_COUNTED = 8
