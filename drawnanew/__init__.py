"""Drawnanew: a page that is kept by patches, held against the page drawn anew."""
