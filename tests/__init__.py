"""The tests of sidecut."""
