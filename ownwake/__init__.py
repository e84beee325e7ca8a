"""Statements whose scans meet what they write."""
