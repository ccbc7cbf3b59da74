"""Tribunal: accountable Byzantine agreement on a chain of blocks."""
