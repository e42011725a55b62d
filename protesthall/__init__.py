"""Protests heard: a rule book, cases, what holds in them, and certificates of it."""
