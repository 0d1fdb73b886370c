"""What words lead to, whatever it is that they lead."""


def reached(origin, letters, step):
    """Return a dict from all that words lead the origin to, to the least words that do so.

    `step(here, letter)` tells what the letter leads to; None is not followed. The keys stand
    in the order of their words.
    """
    words = {origin: ""}
    queue = [origin]
    at = 0
    # What is found first is found by the least word: the queue is in the order of the words,
    # and the least word to a place begins with the least word to the place before it.
    while at < len(queue):
        here = queue[at]
        at += 1
        for letter in letters:
            there = step(here, letter)
            if there is not None and there not in words:
                words[there] = words[here] + letter
                queue.append(there)
    return words
