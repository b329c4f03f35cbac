"""Rimorders: in which order marks stand round a rim."""
