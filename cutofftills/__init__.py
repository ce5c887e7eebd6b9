"""Cards that pay without a line: what tills take while they are cut off."""
