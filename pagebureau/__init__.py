"""Pagebureau: pages made good, pipelines of steps, and what their figures can show."""
