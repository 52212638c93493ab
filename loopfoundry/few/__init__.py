"""Few registers: points of values."""
