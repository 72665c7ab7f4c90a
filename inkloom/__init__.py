"""Inkloom: the heart of an editor."""
