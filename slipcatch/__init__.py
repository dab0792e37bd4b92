"""Slips that come up through calls, what takes them, and what is cleaned on the way."""
