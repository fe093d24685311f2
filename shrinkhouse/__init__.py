"""Shrinkhouse: what fails, made small, and what shows it."""
