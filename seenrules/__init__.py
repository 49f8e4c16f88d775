"""Seenrules: first-match rule lists found from a log of decisions."""
