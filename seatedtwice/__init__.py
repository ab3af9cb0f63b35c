"""Seatedtwice: scripts over things that nobody has seen."""
