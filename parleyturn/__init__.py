"""Parleyturn: talks of several hands, by grammars that change while letters are under way."""
