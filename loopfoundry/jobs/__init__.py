"""Covered bodies, their runs, orders and rewrites."""
