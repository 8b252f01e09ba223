"""Errandroom: errands that wait, made to machines of rooms."""
