"""Settingsmerge: a user's settings through every release of a program."""
