"""The document's words on histories, signs, blocks, marks and documents done plainly and slowly, without a look at the package.

Everything is told of a set of deeds, as a dict from ids to deeds. What is told of a part is worked out from this part
alone, so that nothing here leans on what the document says of parts and greater histories.
"""

ROOT = (0, 0)
UNDOABLE = ("write", "erase", "mark", "note", "block", "move", "drop")


class Model:
    """A closed set of deeds."""

    def __init__(self, deeds):
        self.deeds = {deed[:2]: deed for deed in deeds}
        self.parts = {}
        self.memo = {}

    # section 3: clocks and parts

    def clock(self):
        return tuple(max([number for hand, number in self.deeds if hand == own], default=0) for own in (1, 2, 3, 4))

    def counted(self, clock):
        return [deed for (hand, number), deed in self.deeds.items() if number <= clock[hand - 1]]

    def part(self, clock):
        if clock not in self.parts:
            self.parts[clock] = Model(self.counted(clock))
        return self.parts[clock]

    def past(self, deed):
        return self.part(deed[2])

    def in_past(self, earlier, deed):
        return earlier[1] <= deed[2][earlier[0] - 1]

    def is_cut(self, clock):
        for hand in (1, 2, 3, 4):
            for number in range(1, clock[hand - 1] + 1):
                if (hand, number) not in self.deeds:
                    return False
        return all(all(a <= b for a, b in zip(deed[2], clock)) for deed in self.counted(clock))

    def time(self, deed):
        key = ("time", deed[:2])
        if key not in self.memo:
            past = self.counted(deed[2])
            self.memo[key] = 1 + max([self.time(other) for other in past], default=0)
        return self.memo[key]

    def turns(self):
        return sorted(self.deeds.values(), key=lambda deed: (self.time(deed), deed[0]))

    def of_word(self, *words):
        return [deed for deed in self.turns() if deed[3][0] in words]

    # section 4: what fits

    def is_block(self, block):
        return block == ROOT or (block in self.deeds and self.deeds[block][3][0] == "block")

    def fits(self, deed):
        if not self.is_cut(deed[2]):
            return False
        past = self.part(deed[2])
        hand, number, _, act = deed
        word = act[0]
        rulings = sorted((ruling[1], ruling[3][0]) for ruling in past.of_word("bar", "let") if ruling[3][1] == hand)
        if word != "say" and rulings and rulings[-1][1] == "bar":
            return False
        if word == "write":
            if not past.is_block(act[1]):
                return False
            row = [None] + past.open_row(act[1]) + [None]
            return any(row[k] == act[2] and row[k + 1] == act[3] for k in range(len(row) - 1))
        if word == "erase":
            return all(past.is_open(sign) for sign in act[1])
        if word in ("mark", "note"):
            if not past.is_open(act[1]) or not past.is_open(act[2]) or past.block_of(act[1]) != past.block_of(act[2]):
                return False
            row = past.open_row(past.block_of(act[1]))
            return row.index(act[1]) <= row.index(act[2])
        if word == "block":
            return past.is_block(act[1]) and (act[2] is None or past.is_block(act[2]))
        if word == "move":
            return act[1] != ROOT and past.is_block(act[1]) and past.is_block(act[2]) and (
                act[3] is None or past.is_block(act[3]))
        if word == "drop":
            return act[1] != ROOT and past.is_block(act[1])
        if word in ("undo", "redo"):
            if act[1] >= number:
                return False
            target = past.deeds[hand, act[1]]
            return target[3][0] in UNDOABLE and not past.is_settled(target)
        if word in ("bar", "let", "settle"):
            return hand == 1
        return word == "say"

    def is_open(self, sign):
        return sign in self.signs() and sign in self.open_row(self.block_of(sign))

    # section 5: which deeds count

    def first_bar(self, deed):
        for bar in sorted(self.of_word("bar"), key=lambda bar: bar[1]):
            if bar[3][1] == deed[0] and not self.in_past(deed, bar):
                lets = [let for let in self.of_word("let") if let[3][1] == deed[0]]
                if not any(self.in_past(bar, let) and self.in_past(let, deed) for let in lets):
                    return bar
        return None

    def is_settled(self, deed):
        return any(self.in_past(deed, settle) for settle in self.of_word("settle"))

    def is_late(self, deed):
        if deed[3][0] not in ("undo", "redo"):
            return False
        target = self.deeds[deed[0], deed[3][1]]
        return any(self.in_past(target, settle) and not self.in_past(deed, settle) for settle in self.of_word("settle"))

    def last_turn(self, deed):
        turns = [turn for turn in self.of_word("undo", "redo") if (turn[0], turn[3][1]) == deed[:2]]
        turns = [turn for turn in turns if self.first_bar(turn) is None and not self.is_late(turn)]
        return max(turns, key=lambda turn: turn[1]) if turns else None

    def is_undone(self, deed):
        last = self.last_turn(deed)
        return last is not None and last[3][0] == "undo"

    def why_not(self, deed):
        bar = self.first_bar(deed)
        if bar is not None:
            return bar[:2]
        return self.last_turn(deed)[:2] if self.is_undone(deed) else None

    def counts(self, deed):
        key = ("counts", deed[:2])
        if key not in self.memo:
            self.memo[key] = self.why_not(deed) is None
        return self.memo[key]

    # section 6: signs

    def signs(self):
        """Each sign with its block."""
        if "signs" not in self.memo:
            self.memo["signs"] = {
                deed[:2] + (k,): deed[3][1] for deed in self.of_word("write") for k in range(len(deed[3][4]))}
        return self.memo["signs"]

    def block_of(self, sign):
        return self.signs()[sign]

    def tree(self):
        """The parent (None for the node above all) and the side of each sign."""
        if "tree" not in self.memo:
            tree = {}

            def above(sign):
                found = []
                while sign is not None:
                    sign = tree[sign][0]
                    found.append(sign)
                return found

            for deed in self.of_word("write"):
                _, _, left, right, text = deed[3]
                if right is not None and (left is None or left in above(right)):
                    tree[deed[:2] + (0,)] = (right, "left")
                else:
                    tree[deed[:2] + (0,)] = (left, "right")
                for k in range(1, len(text)):
                    tree[deed[:2] + (k,)] = (deed[:2] + (k - 1,), "right")
            self.memo["tree"] = tree
        return self.memo["tree"]

    def children(self, node, side, block):
        return sorted(sign for sign, told in self.tree().items() if told == (node, side) and self.block_of(sign) == block)

    def row(self, block):
        key = ("row", block)
        if key not in self.memo:
            def below(node):
                row = []
                for child in self.children(node, "left", block):
                    row += below(child)
                if node is not None:
                    row.append(node)
                for child in self.children(node, "right", block):
                    row += below(child)
                return row

            self.memo[key] = below(None)
        return self.memo[key]

    def tree_of(self, sign):
        """A sign with all signs below it."""
        found = [sign]
        for node in found:
            found += [child for child, (parent, _) in self.tree().items() if parent == node]
        return found

    def writer(self, sign):
        return self.deeds[sign[:2]]

    def erases(self, sign):
        return [deed for deed in self.of_word("erase") if sign in deed[3][1]]

    def is_shut(self, sign):
        key = ("shut", sign)
        if key not in self.memo:
            deed = self.writer(sign)
            self.memo[key] = (self.is_settled(deed) and not self.counts(deed)) or any(
                self.is_settled(erase) and self.counts(erase) for erase in self.erases(sign))
        return self.memo[key]

    def namers(self, sign):
        """The deeds that name a sign."""
        found = self.erases(sign) + [deed for deed in self.of_word("mark", "note") if sign in deed[3][1:3]]
        for deed in self.of_word("write"):
            if self.tree()[deed[:2] + (0,)][0] == sign:
                found.append(deed)
        return found

    def has_shut(self, sign):
        return sign in self.signs() and self.is_shut(sign)

    def is_passed(self, sign):
        key = ("passed", sign)
        if key not in self.memo:
            self.memo[key] = self.asked_passed(sign)
        return self.memo[key]

    def asked_passed(self, sign):
        tree = self.tree_of(sign)
        if not all(self.is_shut(x) for x in tree):
            return False
        if any(deed[3][0] in ("mark", "note") for x in tree for deed in self.namers(x)):
            return False
        return all(
            any(all(self.past(deed).has_shut(x) for x in tree) for deed in self.deeds.values() if deed[0] == hand)
            for hand in (1, 2, 3, 4))

    def is_let_go(self, sign):
        namers = [deed for x in self.tree_of(sign) for deed in self.namers(x)]
        return all(
            any(sign in self.past(deed).signs() and self.past(deed).is_passed(sign)
                and all(self.in_past(namer, deed) for namer in namers)
                for deed in self.deeds.values() if deed[0] == hand)
            for hand in (1, 2, 3, 4))

    def shut(self, block):
        return [sign for sign in self.row(block) if self.is_shut(sign)]

    def passed(self, block):
        return [sign for sign in self.row(block) if self.is_passed(sign)]

    def let_go(self, block):
        return [sign for sign in self.row(block) if self.is_let_go(sign)]

    def open_row(self, block):
        return [sign for sign in self.row(block) if not self.is_passed(sign)]

    def ways(self, x, y):
        """The nodes from each of two signs up to the lowest one above both, without it."""
        def up(node):
            return [node] + (up(self.tree()[node][0]) if node is not None else [])

        common = [node for node in up(x) if node in up(y)][0]
        return [tuple((node, self.tree()[node][1]) for node in up(sign)[:up(sign).index(common)]) for sign in (x, y)]

    # section 7: what is shown

    def is_shown(self, sign):
        return self.counts(self.writer(sign)) and not any(self.counts(erase) for erase in self.erases(sign))

    def shown(self, block):
        return [sign for sign in self.row(block) if self.is_shown(sign)]

    def letter(self, sign):
        return self.writer(sign)[3][4][sign[2]]

    def text(self, block):
        return "".join(self.letter(sign) for sign in self.shown(block))

    def blocks(self):
        return [ROOT] + sorted(deed[:2] for deed in self.of_word("block"))

    # section 8: the tree of blocks, as nested lists [block, children]

    def outline(self):
        """The root's node, the dropped blocks, and the vain moves."""
        root = [ROOT, []]
        dropped, vain = [], []

        def found(block, node=root):
            if node[0] == block:
                return node
            for child in node[1]:
                inner = found(block, child)
                if inner is not None:
                    return inner
            return None

        def put(node, parent, behind):
            home = found(parent) or root
            names = [child[0] for child in home[1]]
            home[1].insert(names.index(behind) + 1 if behind in names else 0, node)

        for deed in self.turns():
            act = deed[3]
            if not self.counts(deed):
                continue
            if act[0] == "block":
                put([deed[:2], []], act[1], act[2])
            elif act[0] == "move":
                node = found(act[1])
                if node is None or found(act[2], node) is not None:
                    vain.append(deed[:2])
                else:
                    for block in self.blocks():
                        home = found(block)
                        if home is not None and node in home[1]:
                            home[1].remove(node)
                    put(node, act[2], act[3])
            elif act[0] == "drop" and found(act[1]) is not None:
                dropped.append(act[1])
        return root, dropped, vain

    def outline_rows(self):
        """The parent and the children of each block of the tree."""
        rows = {ROOT: None}
        children = {}

        def walk(node):
            children[node[0]] = tuple(child[0] for child in node[1])
            for child in node[1]:
                rows[child[0]] = node[0]
                walk(child)

        walk(self.outline()[0])
        return rows, children

    def shown_blocks(self):
        root, dropped, _ = self.outline()

        def walk(node, depth):
            if node[0] in dropped:
                return []
            return [(node[0], depth)] + [told for child in node[1] for told in walk(child, depth + 1)]

        return walk(root, 0)

    # section 9: marks

    def winner(self, sign, name):
        row = self.row(self.block_of(sign))
        best = None
        for deed in self.of_word("mark"):
            _, first, last, own, _ = deed[3]
            if own == name and self.counts(deed) and first in row:
                if row.index(first) <= row.index(sign) <= row.index(last):
                    best = deed
        return best

    def names(self):
        return sorted({deed[3][3] for deed in self.of_word("mark")})

    def marks_at(self, sign):
        winners = [(name, self.winner(sign, name)) for name in self.names()]
        return tuple((name, deed[3][4]) for name, deed in winners if deed is not None and deed[3][4] is not None)

    def runs(self, block):
        runs = []
        for sign in self.shown(block):
            letter, marks = self.letter(sign), self.marks_at(sign)
            if runs and runs[-1][1] == marks:
                runs[-1] = (runs[-1][0] + letter, marks)
            else:
                runs.append((letter, marks))
        return tuple(runs)

    # sections 9 and 10: notes, documents, what changed

    def notes(self, block):
        row = self.row(block)
        shown = self.shown(block)
        notes = []
        for deed in self.of_word("note"):
            _, first, last, text = deed[3]
            if self.counts(deed) and first in row:
                start = sum(1 for sign in shown if row.index(sign) < row.index(first))
                end = sum(1 for sign in shown if row.index(sign) < row.index(last)) + self.is_shown(last)
                notes.append((deed[:2], start, end, text))
        return tuple(notes)

    def document(self):
        if "document" not in self.memo:
            self.memo["document"] = tuple(
                (block, depth, self.runs(block), self.notes(block)) for block, depth in self.shown_blocks())
        return self.memo["document"]

    def document_text(self):
        return "\n".join(2 * depth * " " + self.text(block) for block, depth in self.shown_blocks())

    def cuts(self):
        turns = self.turns()
        return tuple(Model(turns[:many]).clock() for many in range(len(turns) + 1))

    def changes(self, clock, other):
        one, two = self.part(clock), self.part(other)
        row = [sign for block in self.blocks() for sign in self.row(block)]

        def shown(model):
            return [sign for sign in row if sign in model.signs() and model.is_shown(sign)]

        def home(model, block):
            return model.outline_rows()[0][block], dict(model.shown_blocks())[block]

        here = [block for block in self.blocks() if block in dict(one.shown_blocks()) and block in dict(two.shown_blocks())]
        return (tuple(sign for sign in shown(two) if sign not in shown(one)),
                tuple(sign for sign in shown(one) if sign not in shown(two)),
                tuple(block for block in here if home(one, block) != home(two, block)))

    def typed(self, block):
        return tuple(sign[0] for sign in self.shown(block))

    # section 13: the base

    def base(self):
        """The deeds of the base, in turn."""
        turns = self.turns()
        for many in range(len(turns), 0, -1):
            first = turns[:many]
            if all(any(all(self.in_past(deed, last) and self.past(last).is_settled(deed) for deed in first)
                       for last in self.deeds.values() if last[0] == hand) for hand in (1, 2, 3, 4)):
                return first
        return []

    def kept_signs(self):
        return tuple((block, len(self.row(block)) - len(self.let_go(block))) for block in self.blocks())


def is_history(deeds):
    """Whether this sequence of deeds is a history: no id twice, closed, and each fits its past."""
    model = Model(deeds)
    if len(model.deeds) != len(deeds) or not all(model.is_cut(deed[2]) for deed in deeds):
        return False
    # by ascending pasts, so that none is asked about a past that is no history
    done = Model([])
    for deed in sorted(deeds, key=lambda deed: sum(deed[2])):
        if not done.is_cut(deed[2]) or not done.part(deed[2]).fits(deed):
            return False
        done = Model(list(done.deeds.values()) + [deed])
    return True
