"""Deltahouse: answers kept as changes come."""
