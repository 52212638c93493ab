"""Loopfoundry: loops made into overlapped code, with papers for every choice."""
