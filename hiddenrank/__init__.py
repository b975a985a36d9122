"""Hiddenrank: rules of unknown strength, known by the outcomes of requests."""
