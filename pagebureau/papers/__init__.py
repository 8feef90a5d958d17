"""Papers: evidence for answers, which can be examined."""
