"""Hangmobile: rods that hang level."""
