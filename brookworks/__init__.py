"""Brookworks: brooks of numbers, run in five ways, and worked on while they run."""
