"""Kernels: passes of code that do overlapped rounds, their making, and their checks."""
