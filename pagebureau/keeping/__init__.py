"""Keeping: rules that compare rows, and keepers that keep some rows of each day."""
