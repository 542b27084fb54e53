"""Shareones: numbers as shares of ones in rows of bits."""
