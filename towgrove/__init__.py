"""Towgrove: walkers on a tree, tied with ropes."""
