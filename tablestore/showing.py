"""The plain text of a question's tree, and the columns and cells that stand in one."""

from tablestore.values import written

# Which conditions need brackets at which side of another one: without them the tree would be another.
BRACKETS = {
    "not": ("and", "or"),
    "and first": ("or",),
    "and second": ("and", "or"),
    "or first": (),
    "or second": ("or",),
}


def shown(tree):
    words = ["from " + ", ".join([source_text(source) for source in tree[1]])]
    if tree[2] is not None:
        words.append("where " + condition_text(tree[2]))
    if len(tree[3]) > 0:
        words.append("order by " + ", ".join([order_text(order) for order in tree[3]]))
    words.append("show " + ", ".join([side_text(column) for column in tree[4]]))
    if tree[5] is not None:
        words.append("take " + str(tree[5]))
    return " ".join(words)


def source_text(source):
    return source[0] if source[0] == source[1] else source[0] + " " + source[1]


def order_text(order):
    return side_text(order[0]) + " down" if order[1] else side_text(order[0])


# Of a column or a value.
def side_text(side):
    if side[0] == "column":
        return side[1] + "." + side[2]
    return written(side[1])


def condition_text(condition):
    word = condition[0]
    if word == "test":
        return side_text(condition[2]) + " " + condition[1] + " " + side_text(condition[3])
    if word == "not":
        return "not " + inner_text(condition[1], "not")
    first = inner_text(condition[1], word + " first")
    return first + " " + word + " " + inner_text(condition[2], word + " second")


def inner_text(condition, where):
    text = condition_text(condition)
    return "(" + text + ")" if condition[0] in BRACKETS[where] else text


def columns_of(tree):
    ordered = [order[0] for order in tree[3]]
    return sides_in(tree[2], "column") + ordered + list(tree[4])


def cells_of(condition):
    return sides_in(condition, "cell")


# The sides of that word in the tests of a condition, from the left; none where there is no condition.
def sides_in(condition, word):
    if condition is None:
        return []
    if condition[0] == "test":
        return [side for side in condition[2:] if side[0] == word]
    sides = []
    for inner in condition[1:]:
        sides.extend(sides_in(inner, word))
    return sides
