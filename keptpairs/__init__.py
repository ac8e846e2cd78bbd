"""Keptpairs: memory orders as tables of kept pairs, compared and compiled for all programs."""
