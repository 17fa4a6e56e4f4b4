"""Columns of a table kept in runs."""
