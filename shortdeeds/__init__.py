"""Shortdeeds: short words for great deeds."""
