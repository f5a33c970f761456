"""Leaveroll: leaves granted by rank, as long as all posts are manned."""
