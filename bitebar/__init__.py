"""Bitebar: bars of pieces from which hands bite corners off by turns."""
