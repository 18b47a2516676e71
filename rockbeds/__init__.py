"""Rockbeds: read a section through the ground back to its history."""
