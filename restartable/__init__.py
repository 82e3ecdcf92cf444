"""Scripts that may stop and are begun again."""
