"""Dotwriter: texts in raised dots, and whether they can be misread."""
