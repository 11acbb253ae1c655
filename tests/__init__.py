"""The tests of anyscribe."""
