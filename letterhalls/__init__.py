"""Letterhalls: houses whose doors bear letters."""
