"""The kinds of forms, the signs of texts, and how much a form can tell."""

NOTHING = 0
NUMBER = 1
BELOW = 2
TEXT = 3
SEQUENCE = 4

SIGNS = "abcdefghijklmnopqrstuvwxyz0123456789-_ "
MOST_PARTS = 4095
MOST_NESTED = 40
MOST_OCTETS = 200
