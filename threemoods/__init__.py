"""Threemoods: a web of folk, and three moods that beat one another in a ring."""
