"""Flows: steps that turn books into books."""
