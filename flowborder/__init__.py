"""Flowborder: secrets and lookers, and which rules may be left out against which of them."""
