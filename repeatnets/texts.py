"""Texts of nets and of Turns: written line by line, and read if they are written just so."""

from repeatnets.errors import BadText
from repeatnets.kinds import is_between, is_name
from repeatnets.lanes import MOST_GRID_AXES, MOST_KINDS, lane_name, lanes_of
from repeatnets.nets import MOST_AXES, Net
from repeatnets.turns import Turns

DIGITS = "0123456789"


def write(thing):
    """The text of a net or of Turns."""
    return "\n".join(turns_lines(thing) if isinstance(thing, Turns) else net_lines(thing))


def net_lines(net):
    """The lines of the text of a net."""
    lines = [f"net {net.axes}"] + [f"room {room}" for room in net.rooms()]
    for name, start, end, step in net.ties():
        lines.append(" ".join(["tie", name, start, end] + [str(number) for number in step]))
    return lines


def turns_lines(turns):
    """The lines of the text of Turns."""
    pairs = [f"{lane_name(lane)} {lane_name(other)}" for lane, other in turns.pairs()]
    return [f"turns {turns.axes} {turns.kinds}"] + pairs


def read(text):
    """The net or the Turns that have this text."""
    if not isinstance(text, str):
        raise BadText(0)
    lines = text.split("\n")
    word, *others = lines[0].split(" ")
    numbers = [number_told(other) for other in others]
    if word == "net" and len(numbers) == 1 and is_between(numbers[0], 0, MOST_AXES):
        return net_told(numbers[0], lines)
    if word == "turns" and len(numbers) == 2:
        axes, kinds = numbers
        if is_between(axes, 1, MOST_GRID_AXES) and is_between(kinds, 1, MOST_KINDS):
            return turns_told(axes, kinds, lines)
    raise BadText(1)


def number_told(word):
    """The integer that a word tells, None if Python would not write it so."""
    digits = word.removeprefix("-")
    if digits == "" or not all([sign in DIGITS for sign in digits]):
        return None
    if digits[0] == "0" and word != "0":
        return None
    return int(word)


def net_told(axes, lines):
    """The net of so many axes that has these lines, of which the first one is right."""
    rooms = {}
    ties = {}
    for number, line in enumerate(lines[1:], start=2):
        words = line.split(" ")
        tie = tie_told(axes, rooms, words)
        if tie is not None and tie[0] not in ties:
            ties[tie[0]] = tie
        elif is_room_line(words) and words[1] not in rooms and len(ties) == 0:
            rooms[words[1]] = True
        else:
            raise BadText(number)
    if len(rooms) == 0:
        raise BadText(len(lines) + 1)
    return Net(axes, list(rooms), list(ties.values()))


def is_room_line(words):
    """Whether these are the words of a line that tells a room."""
    return len(words) == 2 and words[0] == "room" and is_name(words[1])


def tie_told(axes, rooms, words):
    """The tie between rooms, keys of a dict, that the words of a line tell, None if they tell none."""
    if len(words) != 4 + axes or words[0] != "tie":
        return None
    _, name, start, end, *others = words
    step = [number_told(other) for other in others]
    if not is_name(name) or start not in rooms or end not in rooms or None in step:
        return None
    return name, start, end, step


def turns_told(axes, kinds, lines):
    """The Turns of these axes and kinds that have these lines, of which the first one is right."""
    lanes = {lane_name(lane): lane for lane in lanes_of(axes, kinds)}
    pairs = []
    for number, line in enumerate(lines[1:], start=2):
        words = line.split(" ")
        if len(words) != 2 or words[0] not in lanes or words[1] not in lanes:
            raise BadText(number)
        pair = lanes[words[0]], lanes[words[1]]
        if pairs and pair <= pairs[-1]:
            raise BadText(number)
        pairs.append(pair)
    return Turns(axes, kinds, pairs)
