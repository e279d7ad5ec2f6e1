"""Quillmoot: documents by many hands."""
