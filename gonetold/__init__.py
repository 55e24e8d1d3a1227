"""Gonetold: what can be known of a row that nobody copies."""
