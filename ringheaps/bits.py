"""Sums by bits, least lacking numbers, and sets of numbers that are told as numbers."""


def summed(numbers):
    total = 0
    for number in numbers:
        total = total ^ number
    return total


def lacking(numbers):
    there = {}
    for number in numbers:
        there[number] = True
    least = 0
    while least in there:
        least += 1
    return least


def set_of(numbers):
    bits = 0
    for number in numbers:
        bits = bits | (1 << number)
    return bits


def numbers_in(bits):
    return [number for number in range(bits.bit_length()) if (bits >> number) & 1 == 1]


def set_turned(bits, number):
    return set_of([other ^ number for other in numbers_in(bits)])
