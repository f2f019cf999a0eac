"""Notices that can be read in several ways, and what they mean for all houses."""
