"""Posting: services, batches of requests, and what plans of posting them promise."""
