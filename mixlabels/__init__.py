"""What labels can know about mixtures."""
