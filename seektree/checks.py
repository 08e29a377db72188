"""What keys and weights must be, for every function that is handed them."""

from seektree.errors import NoKeys, NoWeights

MOST_KEYS = 12
MOST_LETTERS = 8
MOST_WEIGHT = 1000000


def is_word(text):
    # Asking each sign by its bounds keeps out letters beyond a to z, which islower would let in.
    return 1 <= len(text) <= MOST_LETTERS and all(["a" <= sign <= "z" for sign in text])


def is_rising(words):
    return all([words[k] < words[k + 1] for k in range(len(words) - 1)])


def are_keys(words):
    return len(words) <= MOST_KEYS and all([is_word(word) for word in words]) and is_rising(words)


def are_weights(numbers, wanted):
    return len(numbers) == wanted and all([0 <= number <= MOST_WEIGHT for number in numbers])


def check_keys(keys):
    if not are_keys(keys):
        raise NoKeys("keys are 0 to 12 words of 1 to 8 small letters, each greater than the one ahead of it")


def check_weights(keys, hits, misses):
    if not are_weights(hits, len(keys)):
        raise NoWeights("hits are a weight from 0 to 1000000 for each key")
    if not are_weights(misses, len(keys) + 1):
        raise NoWeights("misses are a weight from 0 to 1000000 for each gap")
