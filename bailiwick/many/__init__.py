"""Writers that do units and tell them to one another by letters."""
