"""Bookplaces: places in a book of books, told by numbers."""
