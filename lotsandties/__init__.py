"""Lotsandties: a file store with a log, books of rules, and a checker."""
