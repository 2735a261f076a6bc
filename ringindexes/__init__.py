"""Ringindexes: two counters over a ring of slots, decided for every size."""
