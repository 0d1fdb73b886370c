"""Turnsandthrows: finite machines as cascades of permutations and resets."""
