"""Turnedapart: who goes ahead of whom, turned apart and put together."""
