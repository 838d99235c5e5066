"""Stepforms: tables led by deeds to forms, and papers for all that is told of them."""
