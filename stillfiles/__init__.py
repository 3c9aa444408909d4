"""Stillfiles: tables kept as files that never change."""
