"""Drift: generations of a gene's copies, told draw by draw and counted exactly."""
