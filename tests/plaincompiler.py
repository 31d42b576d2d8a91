"""A second compiler, told from the words of the document: each term gives a list of rows, with marks to go to."""

from kindsworn.trees import free_names, names_of


def free(*terms):
    return sorted({name for term in terms for name in free_names(term)})


class PlainCompiler:
    def __init__(self, declarations):
        self.makers = [maker for _, _, rows in declarations for maker, _ in rows]
        self.labels = []
        self.functions = []
        self.marks = 0

    def mark(self):
        self.marks += 1
        return ("mark", self.marks)

    def code(self, term):
        rows = self.lay(term, {}, 0, (), True)
        begun = []
        while len(begun) < len(self.functions):
            sort, names = self.functions[len(begun)]
            begun.append(sum(1 for row in rows if row[0] != "mark"))
            scope = {name: ("captured", at) for at, name in enumerate(names)}
            if sort[0] == "loop":
                for at, (name, _) in enumerate(sort[1]):
                    scope[name] = ("own",) if at == sort[2] else ("sibling", len(begun) - 1 + at - sort[2])
            fn = sort[1] if sort[0] == "closure" else sort[1][sort[2]][1]
            scope[fn[1]] = ("local", 0)
            rows += self.lay(fn[2], scope, 1, (), True)
        places, plain = {}, []
        for row in rows:
            if row[0] == "mark":
                places[row] = len(plain)
            else:
                plain.append(row)
        told = [tuple(places[part] if isinstance(part, tuple) and part[:1] == ("mark",) else part for part in row) for row, _ in plain]
        functions = tuple((begin, sort, tuple(names)) for begin, (sort, names) in zip(begun, self.functions))
        return tuple(told), functions, tuple(self.labels), tuple(self.makers), tuple(note for _, note in plain)

    def closure(self, sort, names, scope, note):
        rows = []
        for name in names:
            rows += [(scope[name], note), (("push",), note)]
        self.functions.append((sort, names))
        return rows + [(("closure", len(self.functions) - 1, len(names)), note)]

    def lay(self, term, scope, depth, waiting, end):
        """The rows of a term: tuples (row, note), and marks."""
        wheres = lambda *terms, but=(): tuple((name, scope[name]) for name in free(*terms) if name not in but)
        do = (("do", term, wheres(term)), waiting)
        gives = lambda *frames: (("give",), tuple(frames) + waiting)
        bare = lambda part, more, frame: self.lay(part, scope, depth + more, (frame,) + waiting, False)
        slot = lambda at: ("slot", depth + at)
        head = term[0]
        back = [(("back",), (("give",), ()))] if end else []
        if head == "num":
            return [(("give", 10 * term[1] + 1), do)] + back
        if head == "truth":
            return [(("give", 13 if term[1] else 3), do)] + back
        if term == ("tuple", ()):
            return [(("give", 5), do)] + back
        if head == "make" and term[2] is None:
            return [(("give", 10 * self.makers.index(term[1]) + 7), do)] + back
        if head == "name":
            return [(scope[term[1]], do)] + back
        if head == "fn":
            return self.closure(("closure", term), free(term), scope, do) + back
        if head == "rec":
            rows = []
            names = free(("rec", term[1], ("num", 0)))
            for at in range(len(term[1])):
                rows += self.closure(("loop", term[1], at), names, scope, do) + [(("push",), do)]
            inner = {**scope, **{name: ("local", depth + at) for at, (name, _) in enumerate(term[1])}}
            rows += self.lay(term[2], inner, depth + len(term[1]), waiting, end)
            return rows + ([] if end else [(("drop", len(term[1])), gives())])
        if head in ("call", "put", "op"):
            one, other = term[-2:]
            frame = {"call": ("argument", other, wheres(other)), "put": ("put", other, wheres(other)), "op": ("op", term[1], other, wheres(other))}[head]
            second = {"call": ("apply", slot(0)), "put": ("putto", slot(0)), "op": ("opto", term[1], slot(0))}[head]
            row = {"call": ("tail",) if end else ("call",), "put": ("put",), "op": ("op", term[1])}[head]
            rows = bare(one, 0, frame) + [(("push",), gives(frame))] + bare(other, 1, second) + [(row, gives(second))]
            if head != "call":
                rows += back
        elif head == "let":
            frame = ("let", term[1], term[3], wheres(term[3], but=(term[1],)))
            rows = bare(term[2], 0, frame) + [(("push",), gives(frame))]
            rows += self.lay(term[3], {**scope, term[1]: ("local", depth)}, depth + 1, waiting, end)
            rows += [] if end else [(("drop", 1), gives())]
        elif head == "if":
            frame = ("if", term[2], term[3], wheres(term[2], term[3]))
            other, behind = self.mark(), self.mark()
            rows = bare(term[1], 0, frame) + [(("unless", other), gives(frame))] + self.lay(term[2], scope, depth, waiting, end)
            rows += [] if end else [(("go", behind), gives())]
            rows += [other] + self.lay(term[3], scope, depth, waiting, end) + [behind]
        elif head in ("tuple", "record"):
            rows, terms = [], [part for _, part in term[1]] if head == "record" else list(term[1])
            labels = (tuple(label for label, _ in term[1]),) if head == "record" else ()
            for at, part in enumerate(terms):
                frame = (head,) + labels + (tuple(slot(other) for other in range(at)), tuple(terms[at + 1:]), wheres(*terms[at + 1:]))
                rows += bare(part, at, frame) + [(("push",), gives(frame))]
            if head == "record" and labels[0] not in self.labels:
                self.labels.append(labels[0])
            row = ("record", self.labels.index(labels[0]), len(terms)) if head == "record" else ("tuple", len(terms))
            rows += [(row, gives(frame))] + back
        elif head == "match":
            rows = self.match(term, scope, depth, waiting, end)
        else:
            frame = {"field": ("field", term[2]) if head == "field" else None, "make": ("make", term[1])}.get(head, (head,))
            row = ("label", term[2]) if head == "field" else ("make", self.makers.index(term[1])) if head == "make" else (head,)
            part = term[2] if head == "make" else term[1]
            rows = bare(part, 0, frame) + [(row, gives(frame))] + back
        rows[0] = (rows[0][0], do)
        return rows

    def match(self, term, scope, depth, waiting, end):
        names = sorted({name for pattern, body in term[2] for name in set(free_names(body)) - set(names_of(pattern))})
        frame = ("match", term[2], tuple((name, scope[name]) for name in names))
        rows = self.lay(term[1], scope, depth, (frame,) + waiting, False) + [(("push",), (("give",), (frame,) + waiting))]
        behind, note = self.mark(), (("give", depth), (frame,) + waiting)
        for pattern, body in term[2]:
            following = self.mark()
            tests, binds = [], []
            self.walk(pattern, [("local", depth)], following, tests, binds)
            rows += [(row, note) for row in tests] + [(row, note) for _, ways in binds for row in ways + [("push",)]]
            inner = {**scope, **{name: ("local", depth + 1 + at) for at, (name, _) in enumerate(binds)}}
            rows += self.lay(body, inner, depth + 1 + len(binds), waiting, end)
            if not end:
                rows += [(("drop", 1 + len(binds)), (("give",), waiting)), (("go", behind), (("give",), waiting))]
            rows.append(following)
        return rows + [(("none",), note), behind]

    def walk(self, pattern, way, following, tests, binds):
        """Goes through a pattern: its tests' rows, and the names that it binds with the rows that lead to them."""
        head = pattern[0]
        if head == "bind":
            binds.append((pattern[1], way))
        elif head in ("num", "truth"):
            tests += way + [("not" + head, pattern[1], following)]
        elif head == "tuple":
            for at, part in enumerate(pattern[1]):
                self.walk(part, way + [("item", at)], following, tests, binds)
        elif head == "record":
            for label, part in pattern[1]:
                self.walk(part, way + [("label", label)], following, tests, binds)
        elif head == "make":
            tests += way + [("notmaker", self.makers.index(pattern[1]), following)]
            if pattern[2] is not None:
                self.walk(pattern[2], way + [("inside",)], following, tests, binds)


def plain_code(program):
    return PlainCompiler(program[0]).code(program[1])
