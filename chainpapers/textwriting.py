"""Writing texts of things, which are not looked at here."""

from chainpapers.textforms import FORMS, form_behind


def text_of(name, value):
    """Return the text of a thing of the form with a name."""
    form = FORMS[name]
    kind = form[0]
    if kind == "number":
        return str(value)
    if kind == "maybe":
        return "-" if value == -1 else str(value)
    if kind == "truth":
        return "yes" if value else "no"
    if kind == "words":
        return "/".join(value)
    if kind in ("word", "box", "choice"):
        return value
    return text_of_things(form, value)


def text_of_things(form, value):
    """Return the text of a thing of a form that is made of others."""
    kind = form[0]
    if kind == "row":
        return row_text(form[1], value) + form[2]
    if kind == "kinds":
        return value[0] + text_of(form_behind(form[1], value[0]), value[1:])
    if kind == "tagged":
        return value[0] + text_of(form_behind(form[1], value[0]), value[1])
    if kind == "inside":
        return "(" + text_of(form[1], value) + ")"
    texts = [text_of(form[1], item) for item in value]
    if kind == "lines":
        return "".join([text + "\n" for text in texts])
    begin, between, end = form[4:]
    return begin + between.join(texts) + end


def row_text(pairs, value):
    """Return the text of a row of things, each behind some signs."""
    return "".join([pairs[at][0] + text_of(pairs[at][1], value[at]) for at in range(len(pairs))])
