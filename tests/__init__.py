"""Tests of bookplaces."""
