"""Keyrise: values as rows of two signs that stand in the values' order."""
