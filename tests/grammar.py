"""The grammar of texts, told once more as plain rules, and a recogniser that goes by these rules alone.

It tells which word of a text is the first bad one: the first behind which the rules allow nothing. The rules know
nothing of what stands twice, or out of order: texts that are tried with them have names that ascend as they stand.
"""

import random

from kindsworn import forms

LETTER = "abcdefghijklmnopqrstuvwxyz"


def classes(word):
    """The classes of a word that rules may ask for; a word is a class of its own."""
    found = {word}
    if forms.is_small(word):
        found |= {"SMALL", "NAME"}
    elif forms.is_name(word):
        found |= {"NAME"}
    elif forms.is_great(word):
        found |= {"GREAT", "MAKER"}
    elif forms.is_maker(word):
        found |= {"MAKER"}
    elif word[0] in "~0123456789":
        found |= {"NUMBER"}
    elif word[0] == "?":
        found |= {"VARIABLE"}
    return found


def kind_rules(rules, mark, variables, with_rest):
    """The rules of kinds; mark keeps apart kinds with other variables."""
    k, tight, close, many = "k" + mark, "tight" + mark, "close" + mark, "kinds" + mark
    rules[k] = [[tight], [tight, "->", k]]
    rules[tight] = [[close], ["cell", close], ["MAKER", "closes" + mark]]
    rules["closes" + mark] = [[close], [close, "closes" + mark]]
    rules[close] = [["num"], ["truth"], ["MAKER"], ["(", ")"], ["(", k, ")"], ["(", k, many, ")"], ["{", "}"],
                    ["{", "labels" + mark, "}"]] + [[variable] for variable in variables]
    rules[many] = [[",", k], [",", k, many]]
    rules["labels" + mark] = [["SMALL", ":", k], ["SMALL", ":", k, ",", "labels" + mark]]
    if with_rest:
        rules[close] += [["{", "|", "VARIABLE", "}"], ["{", "labels" + mark, "|", "VARIABLE", "}"]]


def pattern_rules(rules):
    rules["p"] = [["pc"], ["MAKER", "pc"]]
    rules["pc"] = [["_"], ["SMALL"], ["NUMBER"], ["true"], ["false"], ["MAKER"], ["(", ")"], ["(", "p", ")"],
                   ["(", "p", "ps", ")"], ["{", "pfields", "}"]]
    rules["ps"] = [[",", "p"], [",", "p", "ps"]]
    rules["pfields"] = [["SMALL", "=", "p"], ["SMALL", "=", "p", ",", "pfields"]]


def term_rules(rules, binds):
    """The rules of terms; binds is what a let and a rec may bind."""
    rules["t0"] = [["fn1"], ["let", binds, "=", "t0", "in", "t0"], ["rec", "group", "in", "t0"],
                   ["if", "t0", "then", "t0", "else", "t0"], ["t1"]]
    rules["fn1"] = [["fn", "SMALL", "->", "t0"]]
    rules["group"] = [[binds, "=", "fn1"], [binds, "=", "fn1", "and", "group"]]
    rules["t1"] = [["t2"], ["t2", "<", "t2"], ["t2", "=", "t2"]]
    rules["t2"] = [["t3"], ["t2", "+", "t3"], ["t2", "-", "t3"]]
    rules["t3"] = [["t4"], ["t3", "*", "t4"]]
    rules["t4"] = [["t5"], ["call"], ["MAKER", "t5"], ["new", "t5"], ["get", "t5"], ["tell", "t5"],
                   ["put", "t5", "t5"]]
    rules["call"] = [["t6", "t5"], ["call", "t5"], ["field", "t5"]]
    rules["t5"] = [["t6"], ["field"], ["MAKER"]]
    rules["field"] = [["t6", ".", "SMALL"], ["field", ".", "SMALL"]]
    rules["t6"] = [["NUMBER"], ["true"], ["false"], ["NAME"], ["(", ")"], ["(", "t0", ")"], ["(", "t0", "ts", ")"],
                   ["{", "tfields", "}"], ["match", "t0", "with", "rows", "end"]]
    rules["ts"] = [[",", "t0"], [",", "t0", "ts"]]
    rules["tfields"] = [["SMALL", "=", "t0"], ["SMALL", "=", "t0", ",", "tfields"]]
    rules["rows"] = [["|", "p", "->", "t0"], ["|", "p", "->", "t0", "rows"]]


def declaration_rules(rules, great, own):
    """The rules of declarations with up to three parameters; own ones have variables of their parameters alone."""
    rules["declaration"] = []
    for many in range(4):
        mark = str(many)
        parameters = ["?0", "?1", "?2"][:many]
        kind_rules(rules, mark, parameters if own else ["VARIABLE"], not own)
        rules["declaration"].append(["kind", great] + parameters + ["=", "makers" + mark])
        rules["makers" + mark] = [["maker" + mark], ["maker" + mark, "|", "makers" + mark]]
        rules["maker" + mark] = [[great], [great, "close" + mark]]


def rules_of(sort):
    """The rules of a sort of texts, and what stands for a whole text."""
    rules = {}
    if sort == "kind":
        kind_rules(rules, "", ["VARIABLE"], True)
        return rules, "k"
    pattern_rules(rules)
    if sort == "pattern":
        return rules, "p"
    term_rules(rules, "SMALL" if sort == "modules" else "NAME")
    if sort == "term":
        return rules, "t0"
    declaration_rules(rules, "GREAT" if sort == "modules" else "MAKER", sort == "modules")
    if sort == "program":
        rules["program"] = [["give", "t0"], ["declaration", "program"]]
        return rules, "program"
    rules["modules"] = [["one module"], ["one module", "modules"]]
    rules["one module"] = [["module", "GREAT", "uses", "items", "gives"]]
    rules["uses"] = [[], ["use", "greats"]]
    rules["greats"] = [["GREAT"], ["GREAT", ",", "greats"]]
    rules["items"] = [[], ["item", "items"]]
    rules["item"] = [["declaration"], ["let", "SMALL", "=", "t0"], ["rec", "group"]]
    rules["gives"] = [[], ["give", "some gives"]]
    rules["some gives"] = [["one give"], ["one give", ",", "some gives"]]
    rules["one give"] = [["SMALL"], ["kind", "GREAT"], ["kind", "GREAT", "*"]]
    return rules, "modules"


def empties(rules):
    """What may stand for no word at all."""
    found = set()
    while True:
        more = {head for head, rows in rules.items() if any(all(part in found for part in row) for row in rows)}
        if more == found:
            return found
        found = more


def first_bad(rules, start, words):
    """The index of the first bad word, len(words) if something lacks at the end, None if all is well."""
    nothing = empties(rules)
    chart = [{(start, tuple(row), 0, 0) for row in rules[start]}]
    for at in range(len(words) + 1):
        todo = list(chart[at])
        while todo:
            head, row, dot, begin = todo.pop()
            more = []
            if dot == len(row):
                more = [(h, r, d + 1, b) for h, r, d, b in chart[begin] if d < len(r) and r[d] == head]
            elif row[dot] in rules:
                more = [(row[dot], tuple(other), 0, at) for other in rules[row[dot]]]
                if row[dot] in nothing:
                    more.append((head, row, dot + 1, begin))
            for one in more:
                if one not in chart[at]:
                    chart[at].add(one)
                    todo.append(one)
        if at < len(words):
            fitting = classes(words[at])
            chart.append({(h, r, d + 1, b) for h, r, d, b in chart[at] if d < len(r) and r[d] in fitting})
            if not chart[-1]:
                return at
    done = [one for one in chart[-1] if one[0] == start and one[2] == len(one[1]) and one[3] == 0]
    return None if done else len(words)


def shortest(rules):
    """For each head how deep its least derivation is."""
    depth = {}
    while len(depth) < len(rules):
        for head, rows in rules.items():
            known = [max([0] + [depth[part] for part in row if part in rules])
                     for row in rows if all(part not in rules or part in depth for part in row)]
            if known:
                depth[head] = min(depth.get(head, 99), 1 + min(known))
    return depth


def derived(rules, start, chance, room):
    """The words of some text, as classes."""
    depth = shortest(rules)
    words = []
    todo = [(start, room)]
    while todo:
        part, left = todo.pop()
        if part not in rules:
            words.append(part)
            continue
        rows = [row for row in rules[part] if all(other not in rules or depth[other] < left for other in row)]
        if not rows:
            least = min(max([0] + [depth[other] for other in row if other in rules]) for row in rules[part])
            rows = [row for row in rules[part]
                    if max([0] + [depth[other] for other in row if other in rules]) == least]
        todo.extend([(other, left - 1) for other in chance.choice(rows)][::-1])
    return words


def spelled(words, chance):
    """Words for classes: small names ascend as they stand, so that no label and no name is out of order."""
    told = []
    for at, word in enumerate(words):
        small, great = f"n{at:05d}", f"N{at:05d}"
        choices = {
            "SMALL": [small], "NAME": [small, small, "M." + small], "GREAT": [great], "MAKER": [great, "M." + great],
            "NUMBER": ["0", "7", "~12", "2147483647", "~2147483648"], "VARIABLE": ["?0", "?12", "?999999999"],
        }
        told.append(chance.choice(choices.get(word, [word])))
    return told


ALL_WORDS = ["SMALL", "NAME", "GREAT", "MAKER", "NUMBER", "VARIABLE", "?0", "?1"] + list(forms.BARRED) + [
    "->", "-", "=", "<", "+", "*", "(", ")", "{", "}", ",", ".", "|", ":", "_", "num", "truth", "cell"]


def spoiled(words, chance):
    """Words of which some are left out, put in, exchanged, or cut off."""
    words = list(words)
    for _ in range(chance.choice([0, 1, 1, 1, 2])):
        at = chance.randrange(len(words) + 1)
        way = chance.randrange(5)
        if way == 0:
            words[at:at + 1] = []
        elif way == 1:
            words.insert(at, chance.choice(ALL_WORDS))
        elif way == 2:
            words[at:at + 1] = [chance.choice(ALL_WORDS)]
        elif way == 3:
            words = words[:at]
        elif words:
            words.insert(at, chance.choice(words))
    return words


def laid_out(words, chance):
    """A text with these words, and the tuples (line, column) of them, and of its end."""
    text = ""
    places = []
    for word in words:
        joins = text != "" and (text[-1].isalnum() or text[-1] in "_~?.-") and (word[0].isalnum() or word[0] in "_>.")
        for piece in chance.choice([[" "], [], [" "], ["\n"], [" # a remark ( ", "\n"], ["  ", "\n", " "]]):
            text += piece
            joins = False
        if joins:
            text += " "
        rows = text.split("\n")
        places.append((len(rows) - 1, len(rows[-1])))
        text += word
    text += chance.choice(["", "", " ", "\n", " \n  ", "\n# the end", " # the end\n"])
    rows = text.split("\n")
    places.append((len(rows) - 1, len(rows[-1])))
    return text, places


def trials(sort, many, seed, room):
    """So many tuples (text, place of what is bad or lacks, or None) of texts of a sort."""
    chance = random.Random(seed)
    rules, start = rules_of(sort)
    found = []
    while len(found) < many:
        words = spelled(spoiled(derived(rules, start, chance, chance.randrange(2, room)), chance), chance)
        if len(words) > 60:
            continue
        text, places = laid_out(words, chance)
        bad = first_bad(rules, start, words)
        found.append((text, None if bad is None else places[bad]))
    return found
