"""Unlikeplace: talks that find a place where two words differ."""
