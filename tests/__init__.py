"""The tests of flowborder."""
