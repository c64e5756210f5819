"""Mendweights: weights mended by mistakes."""
