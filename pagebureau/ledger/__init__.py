"""The ledger: pages of lines, and the lots of their balances."""
