"""What a desk says: the rows of an answer, and refusals."""

from tablestore.errors import BadQuestion, BadRow, Clash, IndexThere, NoColumn, NoRow, NoTable, TableThere
from tablestore.records import row_text

NO_SENSE = "what?"


def answer_text(values):
    return row_text(values)


def refusal_text(error):
    why = reason_of(error)
    return NO_SENSE if why == "" else "refused: " + why


def reason_of(error):
    if isinstance(error, TableThere):
        return "table there"
    if isinstance(error, NoTable):
        return "no table"
    if isinstance(error, NoColumn):
        return "no column"
    if isinstance(error, IndexThere):
        return "index there"
    if isinstance(error, NoRow):
        return "no row"
    if isinstance(error, BadRow):
        return "row"
    if isinstance(error, Clash):
        return "clash"
    return "question" if isinstance(error, BadQuestion) else ""
