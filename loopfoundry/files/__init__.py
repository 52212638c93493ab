"""Lives of values, and files of registers."""
