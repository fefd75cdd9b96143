"""Trees as texts with brackets."""


def tree_text(rules, rows):
    """The tree of a piece's rows as a text; without signs where there are no rows."""
    texts = {}
    top = ""
    for mark, rule, parts in rows:
        inner = [texts[part] if text is None else text for part, text in parts]
        top = "(" + " ".join([rules[rule][0]] + inner) + ")"
        texts[mark] = top
    return top
