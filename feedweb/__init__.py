"""Feedweb: who eats whom, and who lives by the sun."""
