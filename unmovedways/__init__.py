"""Channels for calls that are never refused and never moved."""
