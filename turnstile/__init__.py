"""Turnstile: visits let by under bounds."""
