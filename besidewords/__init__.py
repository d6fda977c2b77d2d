"""Besidewords: a book of words in their places, in two tongues."""
