"""Purepowers: when x ** n - a can not be split."""
