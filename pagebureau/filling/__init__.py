"""Filling: steps that fill empty rows."""
