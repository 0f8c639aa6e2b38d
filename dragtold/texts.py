"""The texts of listeners, and listeners from texts."""

from dragtold.errors import DragError
from dragtold.setups import KINDS, RELATED_SIDES, SIDES, Listener

ANY = "*"
SAME_PARTS = {"*": None, "yes": True, "no": False}

# The numbers of listeners have far fewer digits; others are all alike too great.
MOST_DIGITS = 9


def text_of(listener):
    """The text of a listener."""
    lines = [f"states {listener.states}", " ".join(["on", *[str(state) for state in listener.on]])]
    lines.extend([rule_line(rule) for rule in listener.rules])
    return "".join([line + "\n" for line in lines])


def rule_line(rule):
    *parts, following = rule
    words = [word_of(part) for part in parts]
    return " ".join(["rule", *words, ">", str(following)])


def word_of(part):
    if part is None:
        return ANY
    if part is True:
        return "yes"
    if part is False:
        return "no"
    return str(part)


def read_listener(text):
    """The listener that has a text."""
    *lines, last = text.split("\n")
    # What stands behind the last line feed is a line, if it is anything.
    all_lines = [*lines, last] if last else lines
    parts = []
    for at, line in enumerate(all_lines):
        part = read_line(at, line)
        if part is None:
            raise DragError(f"line {at}")
        parts.append(part)
    if last or len(lines) < 2:
        raise DragError(f"line {len(lines)}")
    states, on, *rules = parts
    if any(state >= on[at + 1] for at, state in enumerate(on[:-1])):
        raise DragError("no listener")
    return Listener(states, on, rules)


def read_line(at, line):
    """What a line says: a number, a list of numbers, or a rule; None if it is no line for its place."""
    first, *words = line.split(" ")
    if at == 0:
        return read_number(words[0]) if first == "states" and len(words) == 1 else None
    if at == 1:
        numbers = [read_number(word) for word in words]
        return numbers if first == "on" and None not in numbers else None
    return read_rule(words) if first == "rule" else None


def read_rule(words):
    """The rule that these words tell, None if they tell none."""
    if len(words) != 7 or words[5] != ">":
        return None
    source, kind, side, same, related, _, following = words
    if not (is_any_or_in(kind, KINDS) and is_any_or_in(side, SIDES)):
        return None
    if same not in SAME_PARTS or not is_any_or_in(related, RELATED_SIDES):
        return None
    from_state, to_state = read_number(source), read_number(following)
    if to_state is None or (source != ANY and from_state is None):
        return None
    return (from_state, part_of(kind), part_of(side), SAME_PARTS[same], part_of(related), to_state)


def is_any_or_in(word, words):
    return word == ANY or word in words


def part_of(word):
    return None if word == ANY else word


def read_number(word):
    """The number in decimal digits, None if the word is none."""
    if word == "" or not all(sign in "0123456789" for sign in word):
        return None
    if word[0] == "0" and word != "0":
        return None
    return int(word[:MOST_DIGITS + 1])
