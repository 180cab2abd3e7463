"""How the rows of an answer are told."""


def row(numbers):
    """The numbers with how many they are ahead of them."""
    return [len(numbers)] + numbers


def flat(tuples):
    """The numbers of all tuples, one behind another."""
    numbers = []
    for one in tuples:
        numbers.extend(one)
    return numbers
