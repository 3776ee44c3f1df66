"""Farbooks: books far apart that tell one story."""
