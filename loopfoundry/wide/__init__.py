"""Peeled and unrolled bodies, the intervals that their arcs leave free, and how many rounds must be peeled."""
