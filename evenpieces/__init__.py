"""Evenpieces: loads in whole pieces, evened among neighbours."""
