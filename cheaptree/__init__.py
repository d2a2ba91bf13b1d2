"""Cheaptree: the cheapest ties that hold all places together, while ties come and go."""
