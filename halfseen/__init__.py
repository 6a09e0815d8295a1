"""Halfseen: finding plans in worlds that are seen in part."""
