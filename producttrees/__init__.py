"""Shallow product trees over finite multiplication tables."""
