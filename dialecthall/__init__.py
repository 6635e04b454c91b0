"""Dialecthall: tables in texts whose signs are not told."""
