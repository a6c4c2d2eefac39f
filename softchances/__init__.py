"""Softchances: chances that are bounded, not known."""
