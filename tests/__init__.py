"""Tests of hookedcords, for python3 -m unittest."""
