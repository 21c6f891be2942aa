"""Types, classes, schemas, and the judge of entries."""
