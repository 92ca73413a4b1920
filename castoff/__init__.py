"""Castoff: a shelf of few places before a great store."""
