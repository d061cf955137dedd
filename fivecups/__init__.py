"""Fivecups: sayings danced by five cups, and with how few steps three cups can't."""
