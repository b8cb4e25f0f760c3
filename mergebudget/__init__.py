"""Merge schedules of a log-structured store: lifetimes, least work, a versioned store."""
