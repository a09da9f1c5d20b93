"""Seekways: searches of many ways, and one judge."""
