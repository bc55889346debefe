"""Looksfar: how far must each node of a network look."""
