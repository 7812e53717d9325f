"""Websbykind: webs counted up to naming."""
