"""The ledger: pages of lines, their lots, heaps and orders of pages, and how they are made good."""
