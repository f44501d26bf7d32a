"""The eleven forms of a sentence, by the numbers that the document gives them."""

KIND = 1
OVER = 2
CAN_BE = 3
HAS = 4
IS_A = 5
IS = 6
EVERY = 7
USUALLY = 8
NUMBER = 9
USUAL_NUMBER = 10
IN = 11
