"""Basehouse: things of which some sets stand free."""
