"""Tests of labelroads."""
