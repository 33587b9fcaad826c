"""Nets of pools along a row, judged for all rows and fillings."""
