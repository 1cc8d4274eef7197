"""The tests of fairqueue."""
