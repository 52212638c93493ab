"""Shapes, patterns and machines."""
