"""Giveback: posts that get what their neighbours have above nought, and give back what they had."""
