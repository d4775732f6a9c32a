"""Neverrounds: rounds through rooms that never, maybe or surely meet."""
