"""Shownwrites: writing through views of keyed tables."""
