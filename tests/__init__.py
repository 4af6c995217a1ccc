"""The tests of fuseboard."""
