"""Regrinding schedule for mill rolls with shared service visits."""
