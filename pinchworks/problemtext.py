"""Problems as texts, there and back."""

from pinchworks.checks import MOST_BOX_HEAT, MOST_BOXES, MOST_DEGREES, MOST_GAP, MOST_RATE, MOST_STREAMS
from pinchworks.checks import check_problem
from pinchworks.errors import InvalidText, NotText

DIGITS = "0123456789"
LONGEST = 5


def write_problem(problem):
    check_problem(problem)
    streams, boxes, gap = problem
    lines = [f"stream {start} {goal} {rate}" for start, goal, rate in streams]
    lines += [f"box {temperature} {heat}" for temperature, heat in boxes]
    lines.append(f"gap {gap}")
    return "\n".join(lines)


def read_problem(text):
    """Return the problem that a text names; InvalidText tells the first line that cannot stand."""
    if not isinstance(text, str):
        raise NotText("only a string can be read")
    lines = text.split("\n") if text else []
    found = {"stream": [], "box": [], "gap": []}
    for at, line in enumerate(lines, start=1):
        words = [word for word in line.split(" ") if word]
        if words:
            if not may_stand(words[0], found):
                raise InvalidText(at, 1)
            found[words[0]].append(read_numbers(words, at))
    if not found["gap"]:
        raise InvalidText(len(lines) + 1, 1)
    return (tuple(found["stream"]), tuple(found["box"]), found["gap"][0][0])


def may_stand(kind, found):
    """Return whether a line of a kind may follow the lines that were found so far."""
    if found["gap"]:
        return False
    if kind == "stream":
        return not found["box"] and len(found["stream"]) < MOST_STREAMS
    if kind == "box":
        return len(found["box"]) < MOST_BOXES
    return kind == "gap" and (len(found["stream"]) > 0 or len(found["box"]) > 0)


def ranges_of(kind):
    """Return the least and the greatest number for each word behind the first one of a line."""
    if kind == "stream":
        return ((0, MOST_DEGREES), (0, MOST_DEGREES), (1, MOST_RATE))
    if kind == "box":
        return ((0, MOST_DEGREES), (-MOST_BOX_HEAT, MOST_BOX_HEAT))
    return ((0, MOST_GAP),)


def read_numbers(words, at):
    """Return the numbers of a line whose first word may stand, as a tuple."""
    ranges = ranges_of(words[0])
    numbers = []
    for place, word in enumerate(words[1:], start=2):
        if len(numbers) == len(ranges):
            raise InvalidText(at, place)
        low, high = ranges[len(numbers)]
        if not is_number(word, low, high):
            raise InvalidText(at, place)
        numbers.append(int(word))
        if words[0] == "stream" and len(numbers) == 2 and numbers[0] == numbers[1]:
            raise InvalidText(at, place)
    if len(numbers) < len(ranges):
        raise InvalidText(at, len(words) + 1)
    return tuple(numbers)


def is_number(word, low, high):
    """Return whether a word is a number in a range; in one that goes below 0, 0 itself cannot stand."""
    is_signed = low < 0
    digits = word[1:] if is_signed and word.startswith("-") else word
    # Python itself refuses to read numbers of thousands of digits.
    if not 1 <= len(digits) <= LONGEST or any([digit not in DIGITS for digit in digits]):
        return False
    if digits[0] == "0" and (len(digits) > 1 or is_signed):
        return False
    return low <= int(word) <= high
