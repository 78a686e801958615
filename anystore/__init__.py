"""Anystore: rooms that come right from whatever their store holds."""
