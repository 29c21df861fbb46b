"""Ownchute: parcels on belts and what a tracker believes about them."""
