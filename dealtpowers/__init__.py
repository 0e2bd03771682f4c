"""Dealtpowers: what products of sums say about one another, for all tables."""
