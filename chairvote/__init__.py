"""Chairvote: several hands keep one row of deeds by choosing a chair."""
