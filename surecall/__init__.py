"""Surecall: calls of deeds made sure."""
