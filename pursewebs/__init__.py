"""Pursewebs: games on any web whose moves are bought by bids."""
