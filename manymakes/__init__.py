"""Manymakes: programs written once for many settings."""
