"""Sunstore: the cheapest day, borne out by prices."""
