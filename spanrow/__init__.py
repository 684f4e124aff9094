"""Spanrow: all trees of a web in one row."""
