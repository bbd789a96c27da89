"""The constants that the other modules hand in and tell."""

LEFT = "left"
RIGHT = "right"
