"""Smallcourt: small rulings by rules with exceptions of exceptions."""
