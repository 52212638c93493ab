"""Covers, costs and intervals in one tree."""
