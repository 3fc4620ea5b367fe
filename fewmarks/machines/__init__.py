"""Machines that go over a text from the right, and note marks, and then from the left, and write."""
