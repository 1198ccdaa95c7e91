"""Kinsignals: families that fork, wait, and are called by signals."""
