"""Rainparcels: a load told by sums of its pieces."""
