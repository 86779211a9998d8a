"""Hues for ways on lines, rings and trees."""
