"""Seenshares: what a sampler sees of a program."""
