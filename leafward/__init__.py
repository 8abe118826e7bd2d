"""Leafward: transformations of documents, checked against schemas for all documents."""
