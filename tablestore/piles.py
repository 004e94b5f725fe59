"""Two piles, of which the tree of a condition is built while its words are read from the left."""

# How close a word binds; a bracket that still waits for its end holds back all ahead of it.
BINDING = {"(": 0, "or": 1, "and": 2, "not": 3}


# One pile has the trees that are made, the other the words that wait for a tree behind them.
class Piles:
    def __init__(self):
        self.trees = []
        self.waiting = []

    def add_word(self, word):
        self.waiting.append(word)

    def add_tree(self, tree):
        self.trees.append(tree)

    # What binds as close goes together first too: of several side by side the left one binds closer.
    def add_joint(self, word):
        self.settle(BINDING[word])
        self.waiting.append(word)

    def close_bracket(self):
        self.settle(1)
        self.waiting.pop()

    def has_bracket(self):
        return "(" in self.waiting

    def whole(self):
        self.settle(1)
        return self.trees[0]

    # Puts together all words at the top of their pile that bind at least so close.
    def settle(self, binding):
        while self.waiting != [] and BINDING[self.waiting[-1]] >= binding:
            word = self.waiting.pop()
            tree = self.trees.pop()
            if word == "not":
                self.trees.append(("not", tree))
            else:
                first = self.trees.pop()
                self.trees.append((word, first, tree))
