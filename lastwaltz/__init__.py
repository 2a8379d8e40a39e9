"""Lastwaltz: a masquerade in which no two guests exchange masks twice."""
