"""Wherewritten: names that mean what they meant where they were written."""
