"""Shares: tables of counts, and formulas of shares in them."""
