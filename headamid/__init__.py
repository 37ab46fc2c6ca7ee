"""Layings of the fields of classes with several bases, on both sides of the heads of objects."""
