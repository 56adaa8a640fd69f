"""Letters and answers as text.

Each function that reads a text raises Malformed(0) if the text has not the form.
"""

from leasehall.errors import Malformed
from leasehall.notation import (
    read_group,
    read_integer,
    read_name,
    read_question,
    write_group,
    write_value,
)

MOST_DIGITS = 9

# The forms of the parts behind the kind of a letter.
FORMS = {
    "fetch": ("integer", "integer", "integer", "question"),
    "write": ("integer", "integer", "integer", "group"),
    "lease": ("integer", "integer", "integer", "cover"),
    "return": ("integer", "integer", "integer"),
    "missing": ("integer", "integer", "integer"),
    "answer": ("integer", "integer", "integer", "question", "result", "integer", "integer"),
    "written": ("integer", "integer", "integer", "integer", "integer"),
    "leased": (
        "integer", "integer", "integer", "integer", "cover", "integer", "integer", "integer",
    ),
    "denied": ("integer", "integer", "integer"),
    "recall": ("integer", "integer", "integer"),
    "note": ("integer", "integer", "integer", "group"),
    "beat": ("integer", "integer", "integer"),
}

# How many integers stand behind the word of a statement.
STATEMENTS = {"at": 2, "lease": 1}


def write_letter(letter):
    """Return the line of a letter."""
    kind = letter[0]
    return kind + " " + write_parts(FORMS[kind], letter[1:])


def read_letter(line):
    """Return the letter of a line."""
    parts = line.split(" ")
    kind = parts[0]
    if kind not in FORMS:
        raise Malformed(0)
    return (kind,) + read_parts(FORMS[kind], parts[1:])


def write_answer(answer, questions):
    """Return the text of an answer to questions."""
    results, moment, evidence = answer
    written = [write_result(result, question) for result, question in zip(results, questions)]
    statements = [":".join([str(part) for part in statement]) for statement in evidence]
    return " ".join([str(moment), ";".join(written), ";".join(statements) or "-"])


def read_answer(text, questions):
    """Return the answer to questions of a text."""
    parts = text.split(" ")
    if len(parts) != 3:
        raise Malformed(0)
    moment, written, statements = parts
    texts = written.split(";")
    if len(texts) != len(questions):
        raise Malformed(0)
    results = [read_result(each, question) for each, question in zip(texts, questions)]
    return (results, read_long(moment), read_evidence(statements))


def write_parts(forms, values):
    """Return the texts of values, each of its form, separated by spaces."""
    texts = []
    for index, form in enumerate(forms):
        if form == "result":
            # It is written as its question says, which is the part before it.
            texts.append(write_result(values[index], values[index - 1]))
        else:
            texts.append(write_part(form, values[index]))
    return " ".join(texts)


def write_part(form, value):
    """Return the text of a value of a form."""
    if form == "group":
        return write_group(value)
    if form in ("cover", "question"):
        return ":".join(value)
    return str(value)


def read_parts(forms, texts):
    """Return the tuple of the values of texts, each of its form."""
    if len(texts) != len(forms):
        raise Malformed(0)
    values = []
    for form, text in zip(forms, texts):
        if form == "result":
            values.append(read_result(text, values[-1]))
        else:
            values.append(read_part(form, text))
    return tuple(values)


def read_part(form, text):
    """Return the value of a text of a form."""
    if form == "integer":
        return read_long(text)
    if form == "name":
        return read_name(text)
    if form == "cover":
        return read_cover(text)
    if form == "question":
        return read_question(text)
    return read_group(text)


def read_long(text):
    """Return the integer of a text, which may be longer than those of events."""
    return read_integer(text, MOST_DIGITS)


def read_cover(text):
    """Return the cover of a text."""
    keys = text.split(":")
    if len(keys) != 2:
        raise Malformed(0)
    return (read_name(keys[0]), read_name(keys[1]))


def write_result(result, question):
    """Return the text of a result for a question."""
    if question[0] == "list":
        return "[" + write_group(result) + "]"
    if question[0] == "least" and result is not None:
        return "(" + write_group((result,)) + ")"
    return write_value(result)


def read_result(text, question):
    """Return the result for a question of a text."""
    word = question[0]
    if word == "list":
        return _read_records(_within(text, "[", "]"))
    if word in ("get", "least") and text == "none":
        return None
    if word == "least":
        return _read_record(_within(text, "(", ")"))
    return read_long(text)


def _within(text, first, last):
    """Return what stands between the first and the last character."""
    if not text.startswith(first) or not text.endswith(last):
        raise Malformed(0)
    return text[1:-1]


def _read_records(text):
    if text == "":
        return ()
    records = [_read_record(part) for part in text.split(",")]
    for record, following in zip(records, records[1:]):
        if record[0] >= following[0]:
            raise Malformed(0)
    return tuple(records)


def _read_record(text):
    key, _, value = text.partition("=")
    return (read_name(key), read_long(value))


def read_evidence(text):
    """Return the list of the statements of a text."""
    if text == "-":
        return []
    return [_read_statement(part) for part in text.split(";")]


def _read_statement(text):
    parts = text.split(":")
    word = parts[0]
    if word not in STATEMENTS or len(parts) != 1 + STATEMENTS[word]:
        raise Malformed(0)
    return (word,) + tuple([read_long(part) for part in parts[1:]])
