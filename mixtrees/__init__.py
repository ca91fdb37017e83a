"""Mixtrees: feeds that are mixed by turns."""
