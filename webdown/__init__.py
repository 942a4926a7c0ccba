"""Webdown: little webs drawn together out of great ones."""
