"""Worlds, which are bodies with machines: their order, and their sums."""
