"""Rowpipes: small programs over rows, and what shows that they fit."""
