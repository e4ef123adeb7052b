"""Lastdoors: webs of dealers, and what their choices can change."""
