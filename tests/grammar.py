"""The texts of deeds as a net of states, for the tests of promise [7]: where a text goes wrong, told without a reader."""

FIGURES = "0123456789"
LETTERS = "abcdefghijklmnopqrstuvwxyz"


class Net:
    """States with steps by one sign and steps by none; state 0 is the first one."""

    def __init__(self):
        self.steps = [[]]
        self.jumps = [[]]

    def state(self):
        self.steps.append([])
        self.jumps.append([])
        return len(self.steps) - 1

    def closed(self, states):
        found = list(states)
        for state in found:
            found += [other for other in self.jumps[state] if other not in found]
        return found

    def moved(self, states, sign):
        return self.closed({end for state in states for signs, end in self.steps[state] if sign in signs})


# each piece is a function that leads from a state of a net to the state behind it


def one_of(signs):
    def piece(net, state):
        end = net.state()
        net.steps[state].append((tuple(signs), end))
        return end
    return piece


def row(*pieces):
    def piece(net, state):
        for part in pieces:
            state = part(net, state)
        return state
    return piece


def either(*pieces):
    def piece(net, state):
        end = net.state()
        for part in pieces:
            net.jumps[part(net, state)].append(end)
        return end
    return piece


def times(part, least, most):
    def piece(net, state):
        end = net.state()
        for many in range(most):
            if many >= least:
                net.jumps[state].append(end)
            state = part(net, state)
        net.jumps[state].append(end)
        return end
    return piece


def string(text):
    return row(*[one_of(sign) for sign in text])


RANK = row(one_of(FIGURES[1:]), times(one_of(FIGURES), 0, 5))
NUMBER = either(one_of("0"), RANK)
DEED = row(one_of("1234"), one_of("."), RANK)
BLOCK = either(string("0.0"), DEED)
SIGN = row(DEED, one_of("."), NUMBER)
WORD = times(one_of(LETTERS), 1, 8)
TEXT = times(one_of(LETTERS + " "), 1, 8)
NONE = one_of("-")
BLANK = one_of(" ")
CLOCK = row(NUMBER, times(row(one_of("."), NUMBER), 3, 3))

ACTS = {
    "write": (BLOCK, either(SIGN, NONE), either(SIGN, NONE), TEXT),
    "erase": (row(SIGN, times(row(one_of("+"), SIGN), 0, 7)),),
    "mark": (SIGN, SIGN, WORD, either(WORD, NONE)),
    "note": (SIGN, SIGN, TEXT),
    "block": (BLOCK, either(BLOCK, NONE)),
    "move": (BLOCK, BLOCK, either(BLOCK, NONE)),
    "drop": (BLOCK,),
    "undo": (RANK,),
    "redo": (RANK,),
    "bar": (one_of("234"),),
    "let": (one_of("234"),),
    "settle": (),
    "say": (),
}


def whole_net():
    acts = [row(string(word), *[row(BLANK, part) for part in parts]) for word, parts in ACTS.items()]
    net = Net()
    end = row(DEED, BLANK, CLOCK, BLANK, either(*acts))(net, 0)
    return net, end


NET, END = whole_net()


def wrong_at(text):
    """Where a text goes wrong, or None; first by the forms, then by SEEN, then by the signs of an erase."""
    states = NET.closed([0])
    for at, sign in enumerate(text):
        states = NET.moved(states, sign)
        if not states:
            return at
    if END not in states:
        return len(text)
    own, seen, word, *parts = text.split(" ")
    hand, number = map(int, own.split("."))
    if int(seen.split(".")[hand - 1]) != number - 1:
        return len(own) + 1
    if word == "erase":
        signs = [tuple(map(int, sign.split("."))) for sign in parts[0].split("+")]
        if any(not a < b for a, b in zip(signs, signs[1:])):
            return len(own) + 1 + len(seen) + 1 + len(word) + 1
    return None
