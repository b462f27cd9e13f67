"""Generic aliases and their parameters: the core of list[T] and dict[str, T]."""
