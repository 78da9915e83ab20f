"""A changing book of amounts, read with bounded errors."""
