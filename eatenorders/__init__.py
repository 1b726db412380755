"""Eatenorders: poset games, and which orders are one in every company."""
