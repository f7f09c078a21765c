"""Any d looks: what whoever looks at d places of a program can learn, for all runs."""
