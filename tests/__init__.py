"""Tests of formatwords."""
