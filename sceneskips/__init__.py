"""Sceneskips: stories whose scenes can be skipped."""
