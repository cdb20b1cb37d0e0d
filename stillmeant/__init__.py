"""Stillmeant: one change that is merged, taken back and merged again, and what is true of all histories."""
