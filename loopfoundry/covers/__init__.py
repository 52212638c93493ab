"""Covers of bodies by the patterns of a machine."""
