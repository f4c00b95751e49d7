"""Innercommits: which writes of a library share their fate."""
