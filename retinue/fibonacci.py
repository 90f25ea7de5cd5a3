"""The numbers of Fibonacci, which bound how long rounds can go on."""


def fibonacci(number):
    """Return F(number), where F(1) and F(2) are 1 and each later one is the sum of the two before it."""
    older, newer = 0, 1
    for _ in range(number - 1):
        older, newer = newer, older + newer
    return newer
