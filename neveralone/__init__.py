"""Families of even books, whose partitions are never alone."""
