"""The tests of meetwhere."""
