"""The desk: accounts with books and stores, questions about them, and deeds that can be undone."""
