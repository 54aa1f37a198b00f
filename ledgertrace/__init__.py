"""Ledgertrace: who made what from what."""
