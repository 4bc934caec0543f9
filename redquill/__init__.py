"""Redquill: a paper with its strokes shown."""
