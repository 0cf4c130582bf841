"""Anyhalf: an operator language read from any pieces."""
