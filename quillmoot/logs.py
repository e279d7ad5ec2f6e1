"""Logs: nets that are played by lines."""

from quillmoot.deeds import PARTS
from quillmoot.deedtext import deed_text
from quillmoot.lines import read_line
from quillmoot.nets import Net
from quillmoot.pages import text_of_document
from quillmoot.snapshots import desk_of, desk_snapshot

ANSWERS = {True: "yes", False: "no", None: ""}


def done_at(desk, word, told):
    """The deed that a doing of this word makes."""
    match word:
        case "write":
            return desk.write(*told)
        case "erase":
            return desk.erase(*told)
        case "mark":
            return desk.mark(*told)
        case "note":
            return desk.note(*told)
        case "block":
            return desk.block(*told)
        case "move":
            return desk.move(*told)
        case "drop":
            return desk.drop(*told)
        case "undo":
            return desk.undo(*told)
        case "redo":
            return desk.redo(*told)
        case "bar":
            return desk.bar(*told)
        case "let":
            return desk.let(*told)
        case "settle":
            return desk.settle()
        case "say":
            return desk.say()


def done_in(net, word, told):
    """What a call of the net returns."""
    match word:
        case "deliver":
            return net.deliver(*told)
        case "double":
            return net.double(*told)
        case "lose":
            return net.lose(*told)
        case "put_off":
            return net.put_off(*told)
        case "divide":
            return net.divide(told)
        case "unite":
            return net.unite()
        case "meet":
            return net.meet(*told)


def played(net, word, told):
    """Do on a net what a line says; the answer."""
    if word in PARTS:
        deed = done_at(net.desk(told[0]), word, told[1:])
        net.post(deed)
        return deed_text(deed)
    if word == "fresh":
        desk = net.desk(told[0])
        net.seat(desk_of(desk_snapshot(desk), desk.hand))
        return ""
    if word == "show":
        return text_of_document(net.desk(told[0]).book)
    return ANSWERS[done_in(net, word, told)]


class Log:
    """A net, and the lines that were run on it."""

    def __init__(self):
        self.net = Net()
        self.lines = ()

    def run(self, line):
        """Do what a line says, and keep it; the answer."""
        word, told = read_line(line)
        answer = played(self.net, word, told)
        self.lines = self.lines + (line,)
        return answer


def replayed(lines):
    """A log on which these lines were run."""
    log = Log()
    for line in lines:
        log.run(line)
    return log
