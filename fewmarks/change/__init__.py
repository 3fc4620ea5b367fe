"""Operations on rewriters."""
