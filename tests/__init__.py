"""The tests of lotsayings."""
