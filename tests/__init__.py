"""Tests of lastdoors, one file test_*.py each."""
