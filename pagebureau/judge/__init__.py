"""The judge: questions about straight reports, pipelines and rates for all books."""
