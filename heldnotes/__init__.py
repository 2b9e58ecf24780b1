"""Heldnotes: devices that look at a letter's number only against the one they hold."""
