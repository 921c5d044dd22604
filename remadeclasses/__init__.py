"""Remadeclasses: classes made anew while things of them live."""
