"""Few registers: points of values, moves, reliefs, and trees that show that there is none."""
