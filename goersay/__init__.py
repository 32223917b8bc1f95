"""Goersay: rings of hands where the one who goes says how far."""
