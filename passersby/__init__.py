"""Many small hands that meet two by two, and what all come to say."""
