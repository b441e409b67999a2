"""Lockstretch: stretches of files, locked by tasks and by open marks."""
