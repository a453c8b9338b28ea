"""Narrowkeys: the fewest and cheapest indexes for questions to a table."""
