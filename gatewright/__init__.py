"""Gatewright: gates of who may do what, worked out whole."""
