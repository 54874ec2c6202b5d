"""Ghosttext: an input field that suggests the word that was used last."""
