"""Looktrails: slates written anew from what is seen."""
