"""Dueways: a network that keeps its promises of time, and refuses none without a cause."""
