"""Worths: numbers, texts, None for blank, and faults; and what the words of formulas make of them."""

MOST_JOINED = 200


def fault(word):
    return ("fault", word)


def is_fault(worth):
    return isinstance(worth, tuple) and worth[:1] == ("fault",)


def is_great(number):
    return abs(number) > 10 ** 60


def bounded(number):
    return fault("great") if is_great(number) else number


def same_worth(one, other):
    if is_fault(one) or is_fault(other):
        return False
    if one is None:
        return other in (None, 0, "")
    if other is None:
        return one in (0, "")
    return one == other


def number_of(worth):
    return 0 if worth is None else worth


def text_of(worth):
    return "" if worth is None else str(worth)


def single(word, one):
    if is_fault(one):
        return one
    if isinstance(one, str):
        return fault("kind")
    number = number_of(one)
    if word == "minus":
        return bounded(-number)
    return 1 if number == 0 else 0


def paired(op, one, other):
    if is_fault(one):
        return one
    if is_fault(other):
        return other
    if op == "=":
        return 1 if same_worth(one, other) else 0
    if op == "&":
        return joined(one, other)
    if op == "<":
        return less(one, other)
    if isinstance(one, str) or isinstance(other, str):
        return fault("kind")
    return reckoned(op, number_of(one), number_of(other))


def joined(one, other):
    text = text_of(one) + text_of(other)
    return fault("great") if len(text) > MOST_JOINED else text


def less(one, other):
    if isinstance(one, str) or isinstance(other, str):
        if isinstance(one, int) or isinstance(other, int):
            return fault("kind")
        return 1 if text_of(one) < text_of(other) else 0
    return 1 if number_of(one) < number_of(other) else 0


def reckoned(op, number, other):
    if op == "+":
        return bounded(number + other)
    if op == "-":
        return bounded(number - other)
    if op == "*":
        return bounded(number * other)
    if other == 0:
        return fault("nought")
    if op == "/":
        return bounded(number // other)
    return bounded(number % other)


def gathered(word, worths):
    faults = [worth for worth in worths if is_fault(worth)]
    if faults:
        return faults[0]
    numbers = [worth for worth in worths if isinstance(worth, int)]
    if word == "sum":
        # Bounded at the end alone: on its way a sum may go beyond and come back.
        return bounded(sum(numbers))
    if word == "count":
        return len(numbers)
    if not numbers:
        return fault("none")
    return bounded(min(numbers) if word == "least" else max(numbers))
