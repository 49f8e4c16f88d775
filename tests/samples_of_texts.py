"""Texts for the tests of what is read."""

CHARACTERS = "abwz`{AZ019/3:-|_ \n.>"


def with_one_character_otherwise(text):
    """Return the texts with one character replaced, inserted or left out."""
    changed = [text[:at] + text[at + 1 :] for at in range(len(text))]
    for at in range(len(text) + 1):
        changed += [text[:at] + character + text[at:] for character in CHARACTERS]
        changed += [text[:at] + character + text[at + 1 :] for character in CHARACTERS]
    return changed
