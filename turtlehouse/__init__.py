"""Turtlehouse: a hand that walks by turns and steps."""
