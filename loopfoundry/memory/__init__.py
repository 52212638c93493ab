"""Rounds that meet in a cell, and what loads find."""
